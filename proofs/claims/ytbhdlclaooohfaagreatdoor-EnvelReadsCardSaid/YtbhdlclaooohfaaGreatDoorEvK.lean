import Derived.Test.YtbhdlclaooohfaaGreatDoorEvI
import Derived.Laws.OwnMore
import Derived.Laws.IdiomCopy
import Derived.Deep.RegionWith
/- Envel: the reader of a job's file in memory; takeMailbox, body. -/
namespace Go.Proofs.YtbhdlclaooohfaaGreatDoor
open Go.Maps Go.Shelf Go.Proofs.YtbhdlclaooohfaaGreatDoor.Ad Go.ChangeShapes Go.WideShapes Go.ChangeAt Go.RowKit
set_option linter.unusedVariables false
set_option linter.unusedSimpArgs false

/-- a source: what is left, the error -/
structure Cr where
  l : List Int
  e : Int
def cU (c : Cr) (k : Int) : Int := srcUV c.l c.e k
def cUs (c : Cr) (k : Int) : Cr := ⟨srcUL c.l c.e k, srcUE c.l c.e k⟩
def cT (c : Cr) : List Int := srcTV c.l c.e 64
def cTs (c : Cr) : Cr := ⟨srcTL c.l c.e 64, srcTE c.l c.e 64⟩
def cB (c : Cr) : Bool := doneE c.l c.e == 0
/-- the source at block s -/
abbrev SrC (w : World) (s g : Nat) (c : Cr) : Prop := Srce w s g c.l c.e
theorem cU_bound {c : Cr} (hb : Bytes c.l) (k : Int) : 0 ≤ cU c k ∧ cU c k < 18446744073709551616 := srcUV_bound _ _ _ hb
theorem srcUL_len (l : List Int) (e k : Int) : (srcUL l e k).length ≤ l.length := by unfold srcUL; split <;> simp
theorem srcTL_len (l : List Int) (e k : Int) : (srcTL l e k).length ≤ l.length := by unfold srcTL; split <;> simp
theorem cUs_len (c : Cr) (k : Int) : (cUs c k).l.length ≤ c.l.length := srcUL_len _ _ _
theorem cTs_len (c : Cr) : (cTs c).l.length ≤ c.l.length := srcTL_len _ _ _
theorem srcUL_bytes {l : List Int} (h : Bytes l) (e k : Int) : Bytes (srcUL l e k) := by unfold srcUL; split; exact h.drop _; exact h
theorem cU_small {c : Cr} (hb : Bytes c.l) (k : Nat) (hk : k ≤ 2) : 0 ≤ cU c k ∧ cU c k < 65536 := by
  unfold cU srcUV
  split
  · have h := val_bound _ (hb.take (k : Int).toNat)
    have hl : (c.l.take (k : Int).toNat).length ≤ 2 := by simp; omega
    have h2 : (256 : Int) ^ (c.l.take (k : Int).toNat).length ≤ 256 ^ 2 := by
      match h3 : (c.l.take (k : Int).toNat).length, hl with
      | 0, _ => decide
      | 1, _ => decide
      | 2, _ => decide
    omega
  · omega
theorem cU_byte {c : Cr} (hb : Bytes c.l) : 0 ≤ cU c 1 ∧ cU c 1 < 256 := by
  unfold cU srcUV
  split
  · have h := val_bound _ (hb.take (1 : Int).toNat)
    have hl : (c.l.take (1 : Int).toNat).length ≤ 1 := by simp; omega
    have h2 : (256 : Int) ^ (c.l.take (1 : Int).toNat).length ≤ 256 ^ 1 := by
      match h3 : (c.l.take (1 : Int).toNat).length, hl with
      | 0, _ => decide
      | 1, _ => decide
    omega
  · omega
theorem SrC.u {w : World} {s g : Nat} {c : Cr} (h : SrC w s g c) (k : Int) (hl : c.l.length ≤ 10000000) :
    Calls Tryz.prog 36 #[.pointer (some ⟨s, 0, none⟩), .int .i64 k] w fun e w' => e = .returned (.int .u64 (cU c k)) ∧ SrC w' s g (cUs c k) ∧ Mod [s] w w' := by
  refine (srcU_any w s g c.l c.e k h (by omega)).mono ?_
  rintro e w' ⟨rfl, ht⟩
  exact ⟨rfl, ht.src, ht.mod⟩
theorem SrC.t {w : World} {s g : Nat} {c : Cr} (h : SrC w s g c) (hl : c.l.length ≤ 10000000) :
    Calls Tryz.prog 60 #[.pointer (some ⟨s, 0, none⟩), .int .i64 64] w fun e w' => e = .returned (.string (strOfNums (cT c))) ∧ SrC w' s g (cTs c) ∧ Mod [s] w w' := by
  refine (srcText_any w s g c.l c.e 64 h (by omega)).mono ?_
  rintro e w' ⟨rfl, ht⟩
  exact ⟨rfl, ht.src, ht.mod⟩
theorem newSource2_any (w : World) (a : Option Addr) (cap n : Nat) (l : List Int) (h : Cells8 w a l) (hn : n = l.length) (hl : l.length ≤ 140737488355328) (h0 : 0 < w.heap.size) :
    Calls Tryz.prog 35 #[.slice a n cap] w fun e w' => ∃ s g, e = .returned (.pointer (some ⟨s, 0, none⟩)) ∧ Srce w' s g l 0 ∧ w.heap.size ≤ s ∧ (g = 0 ∨ w.heap.size ≤ g) ∧ g < w'.heap.size ∧ Mod [] w w' := by
  have hcl := clone_any w a cap _ l h hn hl
  have HC := Lib.hid hcl
  have hb := h.1
  have HB := Lib.hid hb
  have H0 := Lib.hid h0
  clear hcl h hn hb h0
  go_enter Tryz.func35, Tryz.ntmps35
  go_wp2_with (go_at_call 56; refine HC.out.mono ?_; rintro e w1 ⟨a1, cap1, rfl, h1, h2⟩; have H1 := Lib.hid h1; have H2 := Lib.hid h2; clear h1 h2)
  go_ret
  have hm := Mod.ofBelow H2.out
  have hsz := hm.size
  have h0 := H0.out
  obtain ⟨_, _, hv, _, hcm⟩ := owns_shape H1.out
  have hcap : l.length ≤ cap1 ∧ cap1 ≤ maxLen := by
    rcases H1.out.2 with ⟨h3, h4⟩ | ⟨g, c, cur, h3, _, _, h5, h6, _⟩
    · simp at h3; omega
    · simp at h3; omega
  have h8 := (Cells8.ofOwns HB.out H1.out).mod ((Mod.refl [] w1).alloc (.cells #[.slice a1 l.length cap1, .int .i64 0] 99)) (by simp)
  cases a1 with
  | none => exact ⟨w1.heap.size, 0, rfl, ⟨⟨none, cap1, heap_alloc_new w1 _, h8, by simp, hcap.1, hcap.2⟩, by omega⟩, by omega, .inl rfl, by simp, hm.alloc _⟩
  | some x =>
    have hx := H1.out.lt x.block rfl
    exact ⟨w1.heap.size, x.block, rfl, ⟨⟨some x, cap1, heap_alloc_new w1 _, h8, by simp, hcap.1, hcap.2⟩, by omega⟩, by omega, .inr hx.1, by simp; omega, hm.alloc _⟩
set_option maxHeartbeats 1000000 in
theorem takeMailbox_any (w : World) (s g : Nat) (c : Cr) (h : SrC w s g c) (hg : g < w.heap.size) (hl : c.l.length ≤ 10000000) :
    Calls Tryz.prog 37 #[.pointer (some ⟨s, 0, none⟩)] w fun e w' => e = .returned (.agg (adCs (strOfNums (cT c)) (strOfNums (cT (cTs c))))) ∧ SrC w' s g (cTs (cTs c)) ∧ Mod [s] w w' := by
  have hlt := h.lt
  have hm0 : Mod [] w (w.alloc (.cells (adCs ⟨#[]⟩ ⟨#[]⟩) 25)) := (Mod.refl [] w).alloc _
  have HN := Lib.hid (heap_alloc_new w (.cells (adCs ⟨#[]⟩ ⟨#[]⟩) 25))
  have H0 := Lib.hid (h.mod hm0 (by simp) (by simp))
  have HM0 := Lib.hid (hm0.mono (G := [s]) (by simp))
  have HLt := Lib.hid hlt
  have HGl := Lib.hid hg
  clear h hm0 hlt hg
  go_enter Tryz.func37, Tryz.ntmps37
  go_wp2_with fail
  generalize w.alloc (.cells (adCs ⟨#[]⟩ ⟨#[]⟩) 25) = w0 at *
  generalize hg0 : w.heap.size = g0 at *
  have HG := Lib.hid hg0
  clear hg0
  refine (SrC.t H0.out hl).mono ?_
  rintro e w1 ⟨rfl, h1, hm⟩
  have H1 := Lib.hid h1
  have HM1 := Lib.hid (HM0.out.trans hm)
  have HN1 := Lib.hid (hm.row HN.out (by have := HLt.out; simp; omega))
  clear h1 hm
  go_wp2_with fail
  refine (SrC.t H1.out (by have := cTs_len c; omega)).mono ?_
  rintro e w2 ⟨rfl, h2, hm⟩
  have H2 := Lib.hid h2
  have HM2 := Lib.hid (HM1.out.trans hm)
  have hn2 := hm.row HN1.out (by have := HLt.out; simp; omega)
  have HN2 := Lib.hid hn2
  have y0 := blk_free hn2 0
  have y1 := blk_free hn2 1
  have x0 := blk_cell hn2 0
  have x1 := blk_cell hn2 1
  clear h2 hm hn2
  generalize htl : strOfNums (cT c) = tl at *
  generalize htd : strOfNums (cT (cTs c)) = td at *
  have HTl := Lib.hid htl
  have HTd := Lib.hid htd
  clear htl htd
  go_wp2_with fail
  refine bodyPost_ret (v := .agg (adCs tl td)) (results_cell_row rfl _ _ g0 _ (adCs tl td) (0, 0) _ rfl (blk_store2 HN2.out rfl _ _) Tryz.underlying25 rfl ad_size) rfl ?_
  have hms := mod_store2 (w := w2) (g := g0) (.string tl) (.string td)
  refine ⟨by rw [HTl.out, HTd.out], H2.out.mod hms (by have := HLt.out; simp; omega) ?_, HM2.out.trans' hms (by intro x hx; simp at hx; subst hx; right; rw [HG.out]; exact Nat.le_refl _)⟩
  have := HGl.out; have := HG.out; simp; omega

/-- where the file of a reader lies -/
structure FA where
  a : Option Addr
  n : Nat
  c : Nat
  ks : List (Nat × Array Value)
abbrev rdrC (f : FA) (used : Int) (j : Jb) (p : JA) : Array Value := #[.slice f.a f.n f.c, .int .i64 used, .int .i64 j.id, .int .i64 j.arr, .string j.fl, .string j.fd, .slice p.ta j.to.length p.tc, .slice p.sa j.sts.length p.sc, .slice p.ba j.body.length p.bc]
/-- a reader at block rb, with what it read -/
structure RdW (B : Nat) (w0 w : World) (rb : Nat) (f : FA) (used : Int) (j : Jb) (p : JA) : Prop where
  row : w.heap[rb]? = some (.cells (rdrC f used j p) 48 (0, 0))
  to : w.ownsRow B 39 3 (.slice p.ta j.to.length p.tc) j.to.length (rowC tgC j.to)
  sts : w.ownsRow B 41 4 (.slice p.sa j.sts.length p.sc) j.sts.length (rowC stC j.sts)
  body : Pay B w p.ba j.body
  bn : j.body.length ≤ p.bc
  below : Below B w0 w
  size : B ≤ w.heap.size
  rB : B ≤ rb
  keep : ∀ x ∈ f.ks, w.heap[x.1]? = some (.cells x.2 55 (0, 0))
theorem ne_type {t t' : TypeId} {w : World} {x : Nat} {cs : Array Value} (h : w.heap[x]? = some (.cells cs t (0, 0))) (hne : t ≠ t') : ¬ IsT t' w x := IsT.ne ⟨cs, h⟩ hne
theorem RdW.keepMod {B : Nat} {w0 w w' : World} {rb : Nat} {f : FA} {used : Int} {j : Jb} {p : JA} {F : List Nat} (h : RdW B w0 w rb f used j p) (hm : Mod F w w') (hF : ∀ x ∈ F, ¬ IsT 55 w x) : ∀ x ∈ f.ks, w'.heap[x.1]? = some (.cells x.2 55 (0, 0)) :=
  fun x hx => hm.row (h.keep x hx) (fun hc => hF _ hc ⟨_, h.keep x hx⟩)
theorem RdW.mod {B : Nat} {w0 w w' : World} {rb : Nat} {f : FA} {used : Int} {j : Jb} {p : JA} {F : List Nat} (h : RdW B w0 w rb f used j p) (hm : Mod F w w') (hF : ∀ x ∈ F, B ≤ x ∧ x ≠ rb ∧ ¬ IsT 39 w x ∧ ¬ IsT 41 w x ∧ ¬ IsT 5 w x ∧ ¬ IsT 55 w x) : RdW B w0 w' rb f used j p := by
  refine ⟨hm.row h.row (fun hx => (hF _ hx).2.1 rfl), hm.owns h.to ?_, hm.owns h.sts ?_, h.body.mod hm ?_, h.bn, h.below.trans (hm.toBelow h.size (fun x hx => (hF x hx).1)), Nat.le_trans h.size hm.size, h.rB, h.keepMod hm (fun x hx => (hF x hx).2.2.2.2.2)⟩
  · intro k hk hx
    exact (hF k hx).2.2.1 (owns_isT h.to hk)
  · intro k hk hx
    exact (hF k hx).2.2.2.1 (owns_isT h.sts hk)
  · intro x _ hx hc
    exact (hF x hx).2.2.2.2.1 hc
theorem RdW.quiet {B : Nat} {w0 w w' : World} {rb : Nat} {f : FA} {used : Int} {j : Jb} {p : JA} (h : RdW B w0 w rb f used j p) (hm : Mod [] w w') : RdW B w0 w' rb f used j p := h.mod hm (by simp)
theorem RdW.src {B : Nat} {w0 w w' : World} {rb : Nat} {f : FA} {used : Int} {j : Jb} {p : JA} {s g : Nat} {c : Cr} (h : RdW B w0 w rb f used j p) (hs : SrC w s g c) (hB : B ≤ s) (hm : Mod [s] w w') : RdW B w0 w' rb f used j p := by
  obtain ⟨a, cap, hc, _⟩ := hs.ex
  refine h.mod hm ?_
  intro x hx
  simp only [List.mem_cons, List.not_mem_nil, or_false] at hx
  subst hx
  refine ⟨hB, ?_, ne_type hc (by decide), ne_type hc (by decide), ne_type hc (by decide), ne_type hc (by decide)⟩
  intro e
  subst e
  exact ne_type hc (show 99 ≠ 48 by decide) ⟨_, h.row⟩
theorem RdW.job {B : Nat} {w0 w : World} {rb : Nat} {f : FA} {used : Int} {j : Jb} {p : JA} (h : RdW B w0 w rb f used j p) : JobAt w j p := by
  refine ⟨CellsK.ofOwns tgC_size (by decide) h.to rfl, CellsK.ofOwns stC_size (by decide) h.sts rfl, h.body.1, owns_le h.to, owns_le h.sts, h.bn⟩
set_option maxHeartbeats 1000000 in
theorem body_any {B : Nat} {w0 w : World} {rb : Nat} {f : FA} {used : Int} {j : Jb} {p : JA} (h : RdW B w0 w rb f used j p) (pa : Option Addr) (pn pc : Nat) (pl : List Int) (hp : Pay B w pa pl) (hn : pn = pl.length) (hpc : pl.length ≤ pc) :
    Calls Tryz.prog 15 #[.pointer (some ⟨rb, 0, none⟩), .slice pa pn pc] w fun e w' => e = .returned (.bool true) ∧ RdW B w0 w' rb f used { j with body := pl } { p with ba := pa, bc := pc } := by
  have hrow := h.row
  have y8 := blk_free hrow 8
  have x8 := blk_cell hrow 8
  have HRow := Lib.hid hrow
  have H := Lib.hid h
  have HP := Lib.hid hp
  have HN := Lib.hid hn
  have HC := Lib.hid hpc
  clear hrow h hp hn hpc
  go_enter Tryz.func15, Tryz.ntmps15
  go_wp2_with fail
  go_ret
  have hn := HN.out
  subst hn
  have hm : Mod [rb] w (w.setCell ⟨rb, 8, none⟩ (.slice pa pl.length pc)) := (Mod.refl [rb] w).setCell (Or.inl (by simp)) _
  have hI : ∀ t, IsT t w rb → t = 48 := by
    intro t ht
    by_cases e : t = 48
    · exact e
    · exact absurd ht (ne_type HRow.out (fun h => e h.symm))
  refine ⟨rfl, blk_set HRow.out 8 _, hm.owns H.out.to ?_, hm.owns H.out.sts ?_, HP.out.mod hm ?_, HC.out, H.out.below.trans (hm.toBelow H.out.size (by simpa using H.out.rB)), Nat.le_trans H.out.size hm.size, H.out.rB, H.out.keepMod hm (fun x hx ht => by simp at hx; subst hx; exact absurd (hI _ ht) (by decide))⟩
  · intro k hk hx
    simp at hx
    subst hx
    exact absurd (hI _ (owns_isT H.out.to hk)) (by decide)
  · intro k hk hx
    simp at hx
    subst hx
    exact absurd (hI _ (owns_isT H.out.sts hk)) (by decide)
  · intro x _ hx hc
    simp at hx
    subst hx
    exact absurd (hI _ hc) (by decide)
end Go.Proofs.YtbhdlclaooohfaaGreatDoor

/- Envel: the reader's state. -/
namespace Go.Proofs.YtbhdlclaooohfaaGreatDoor
open Go.Maps Go.Shelf Go.Proofs.YtbhdlclaooohfaaGreatDoor.Ad Go.ChangeShapes Go.WideShapes Go.ChangeAt Go.RowKit
set_option linter.unusedVariables false
set_option linter.unusedSimpArgs false

abbrev wr64 (v : Int) : Int := IntKind.i64.wrap v
def sc1 (c : Cr) : Cr := cUs c 1
def sc2 (c : Cr) : Cr := cUs (sc1 c) 1
def sc3 (c : Cr) : Cr := cUs (sc2 c) 2
def sc4 (c : Cr) : Cr := cUs (sc3 c) 8
def sc5 (c : Cr) : Cr := cUs (sc4 c) 2
/-- the state that is read -/
def scX (c : Cr) : JSt := ⟨wr64 (cU (sc1 c) 1), wr64 (cU (sc2 c) 2), wr64 (cU (sc3 c) 8), wr64 (cU (sc4 c) 2)⟩
/-- whether a step's payload is as told, for n targets -/
def scOk (c : Cr) (n : Nat) : Bool := cB (sc5 c) && (decide ((cU c 1).toNat < n) && stB (scX c))
def stepJ (c : Cr) (j : Jb) : Jb := if scOk c j.sts.length then { j with sts := j.sts.set (cU c 1).toNat (scX c) } else j
theorem stepJ_no {c : Cr} {j : Jb} (h : scOk c j.sts.length = false) : stepJ c j = j := by unfold stepJ; rw [h]; rfl
theorem stepJ_yes {c : Cr} {j : Jb} (h : scOk c j.sts.length = true) : stepJ c j = { j with sts := j.sts.set (cU c 1).toNat (scX c) } := by unfold stepJ; rw [h]; rfl
/-- the source, the state's row, the reader -/
structure StW (B : Nat) (w0 w : World) (rb : Nat) (f : FA) (used : Int) (j : Jb) (p : JA) (s g : Nat) (c : Cr) (xb : Nat) (x : JSt) : Prop where
  rd : RdW B w0 w rb f used j p
  src : SrC w s g c
  sB : B ≤ s
  gs : g < w.heap.size ∧ (g = 0 ∨ rb < g)
  row : w.heap[xb]? = some (.cells (stC x) 41 (0, 0))
  xB : B ≤ xb
  own : ∀ k, (Value.slice p.sa j.sts.length p.sc).ownBlock = some k → k ≠ xb
  gx : g ≠ xb
theorem StW.take {B : Nat} {w0 w w' : World} {rb : Nat} {f : FA} {used : Int} {j : Jb} {p : JA} {s g : Nat} {c c' : Cr} {xb : Nat} {x : JSt} (h : StW B w0 w rb f used j p s g c xb x) (hs : SrC w' s g c') (hm : Mod [s] w w') : StW B w0 w' rb f used j p s g c' xb x := by
  obtain ⟨a, cap, hc, _⟩ := h.src.ex
  refine ⟨h.rd.src h.src h.sB hm, hs, h.sB, ⟨Nat.lt_of_lt_of_le h.gs.1 hm.size, h.gs.2⟩, hm.row h.row ?_, h.xB, h.own, h.gx⟩
  intro hx
  simp at hx
  subst hx
  exact ne_type hc (show 99 ≠ 41 by decide) ⟨_, h.row⟩
theorem StW.set {B : Nat} {w0 w : World} {rb : Nat} {f : FA} {used : Int} {j : Jb} {p : JA} {s g : Nat} {c : Cr} {xb : Nat} {x : JSt} (h : StW B w0 w rb f used j p s g c xb x) (i : Nat) (v : Int) (x' : JSt) (hx : (stC x).setIfInBounds i (.int .i64 v) = stC x') : StW B w0 (w.setCell ⟨xb, i, none⟩ (.int .i64 v)) rb f used j p s g c xb x' := by
  have hm : Mod [xb] w (w.setCell ⟨xb, i, none⟩ (.int .i64 v)) := (Mod.refl [xb] w).setCell (Or.inl (by simp)) _
  obtain ⟨a, cap, hc, _⟩ := h.src.ex
  have hsx : s ≠ xb := fun e => by
    subst e
    exact ne_type hc (show 99 ≠ 41 by decide) ⟨_, h.row⟩
  have hrx : rb ≠ xb := fun e => by
    subst e
    exact ne_type h.rd.row (show 48 ≠ 41 by decide) ⟨_, h.row⟩
  have hrd : RdW B w0 (w.setCell ⟨xb, i, none⟩ (.int .i64 v)) rb f used j p := by
    refine ⟨hm.row h.rd.row (by simpa using hrx), hm.owns h.rd.to ?_, hm.owns h.rd.sts ?_, h.rd.body.mod hm ?_, h.rd.bn, h.rd.below.trans (hm.toBelow h.rd.size (by simpa using h.xB)), Nat.le_trans h.rd.size hm.size, h.rd.rB, h.rd.keepMod hm (fun y hy ht => by simp at hy; subst hy; exact ne_type h.row (show 41 ≠ 55 by decide) ht)⟩
    · intro k hk hx
      simp at hx; subst hx
      exact ne_type h.row (show 41 ≠ 39 by decide) (owns_isT h.rd.to hk)
    · intro k hk hx
      simp at hx
      exact h.own k hk hx
    · intro y _ hy hc
      simp at hy; subst hy
      exact ne_type h.row (show 41 ≠ 5 by decide) hc
  refine ⟨hrd, h.src.mod hm (by simpa using hsx) (by simpa using h.gx), h.sB, ⟨Nat.lt_of_lt_of_le h.gs.1 hm.size, h.gs.2⟩, ?_, h.xB, h.own, h.gx⟩
  have := blk_set h.row i (.int .i64 v)
  rw [hx] at this
  exact this

theorem cUs_bytes {c : Cr} (h : Bytes c.l) (k : Int) : Bytes (cUs c k).l := srcUL_bytes h _ _
/-- four stores make a row with another state -/
theorem owns_set4 {w : World} {B : Nat} {e : TypeId} {g n cap : Nat} {xs : List JSt} (h : w.ownsRow B e 4 (.slice (some ⟨g, 0, none⟩) n cap) n (rowC stC xs)) (i : Nat) (hi : i < xs.length) (x : JSt) :
    ((((w.setCell ⟨g, i * 4, none⟩ (.int .i64 x.st)).setCell ⟨g, i * 4 + 1, none⟩ (.int .i64 x.tries)).setCell ⟨g, i * 4 + 2, none⟩ (.int .i64 x.due)).setCell ⟨g, i * 4 + 3, none⟩ (.int .i64 x.code)).ownsRow B e 4 (.slice (some ⟨g, 0, none⟩) n cap) n (rowC stC (xs.set i x)) := by
  have h1 := (h.stored (i * 4) (.int .i64 x.st)).1
  have h2 := (h1.stored (i * 4 + 1) (.int .i64 x.tries)).1
  have h3 := (h2.stored (i * 4 + 2) (.int .i64 x.due)).1
  have h4 := (h3.stored (i * 4 + 3) (.int .i64 x.code)).1
  have e : ∀ (xs : List JSt) (i : Nat), i < xs.length → ((((rowC stC xs).set (i * 4) (.int .i64 x.st)).set (i * 4 + 1) (.int .i64 x.tries)).set (i * 4 + 2) (.int .i64 x.due)).set (i * 4 + 3) (.int .i64 x.code) = rowC stC (xs.set i x) := by
    intro xs
    induction xs with
    | nil => intro i hi; simp at hi
    | cons y ys ih =>
      intro i hi
      have e0 : rowC stC (y :: ys) = .int .i64 y.st :: .int .i64 y.tries :: .int .i64 y.due :: .int .i64 y.code :: rowC stC ys := rfl
      cases i with
      | zero => rfl
      | succ i =>
        have ih := ih i (by simpa using hi)
        have e1 : rowC stC ((y :: ys).set (i + 1) x) = .int .i64 y.st :: .int .i64 y.tries :: .int .i64 y.due :: .int .i64 y.code :: rowC stC (ys.set i x) := rfl
        rw [e0, e1, ← ih]
        have k0 : (i + 1) * 4 = i * 4 + 4 := by omega
        rw [k0]
        rfl
  rw [e xs i hi] at h4
  exact h4
/-- behind the four stores -/
theorem RdW.setSt {B : Nat} {w0 w : World} {rb : Nat} {f : FA} {used : Int} {j : Jb} {p : JA} {g : Nat} (h : RdW B w0 w rb f used j p) (hp : p.sa = some ⟨g, 0, none⟩) (i : Nat) (hi : i < j.sts.length) (x : JSt) :
    RdW B w0 ((((w.setCell ⟨g, i * 4, none⟩ (.int .i64 x.st)).setCell ⟨g, i * 4 + 1, none⟩ (.int .i64 x.tries)).setCell ⟨g, i * 4 + 2, none⟩ (.int .i64 x.due)).setCell ⟨g, i * 4 + 3, none⟩ (.int .i64 x.code)) rb f used { j with sts := j.sts.set i x } p := by
  have hs := h.sts
  rw [hp] at hs
  have hT : IsT 41 w g := owns_isT hs rfl
  obtain ⟨cur, hcur⟩ := hT
  have hgB : B ≤ g := (hs.lt g rfl).1
  have hm : Mod [g] w ((((w.setCell ⟨g, i * 4, none⟩ (.int .i64 x.st)).setCell ⟨g, i * 4 + 1, none⟩ (.int .i64 x.tries)).setCell ⟨g, i * 4 + 2, none⟩ (.int .i64 x.due)).setCell ⟨g, i * 4 + 3, none⟩ (.int .i64 x.code)) :=
    ((((Mod.refl [g] w).setCell (Or.inl (by simp)) _).setCell (Or.inl (by simp)) _).setCell (Or.inl (by simp)) _).setCell (Or.inl (by simp)) _
  have hl : (j.sts.set i x).length = j.sts.length := by simp
  refine ⟨?_, hm.owns h.to ?_, ?_, h.body.mod hm ?_, h.bn, h.below.trans (hm.toBelow h.size (by simpa using hgB)), Nat.le_trans h.size hm.size, h.rB, h.keepMod hm (fun y hy ht => by simp at hy; subst hy; exact ne_type hcur (show 41 ≠ 55 by decide) ht)⟩
  · have hr := hm.row h.row (by
      intro hx
      simp at hx; subst hx
      exact ne_type h.row (show 48 ≠ 41 by decide) ⟨_, hcur⟩)
    simpa [rdrC, hl] using hr
  · intro k hk hx
    simp at hx; subst hx
    exact ne_type hcur (show 41 ≠ 39 by decide) (owns_isT h.to hk)
  · have := owns_set4 hs i hi x
    rw [hp, hl]
    exact this
  · intro y _ hy hc
    simp at hy; subst hy
    exact ne_type hcur (show 41 ≠ 5 by decide) hc
section
variable {P : Program} {w : World} {ops : Array Oper} {o : Oper} {a : Act} {K : Act → World → Prop} {Q : Exit → Act → World → Prop} {E : Prop}
/-- a struct is stored at an element of a row -/
theorem step_store_at (hgd : o.guard = none) (ty : TypeId) (x y : Operand) (ho : o.op = .store ty x y) (hd : o.dst = none) (g off : Nat) (cs : Array Value) (hx : a.eval x = .pointer (some ⟨g, off, none⟩)) (hy : a.eval y = .agg cs)
    (hs : (P.info? ty).map (·.size) = some cs.size) (h1 : cs.all (·.oneCell') = true) (hc : ∀ j, j < cs.toList.length → (w.cell? ⟨g, off + 0 + j, none⟩).isSome = true) (hf : ∀ j, j < cs.toList.length → w.frozen? ⟨g, off + 0 + j, none⟩ = false) (h : K a (w.setCells g (off + 0) cs.toList)) : if Region.wanted o (yielded ops a.tmps) = true then Oper.wp P o a w K Q else E := by
  have hwt : Region.wanted o (yielded ops a.tmps) = true := by simp [Region.wanted, hgd]
  rw [if_pos hwt]
  have hst := run_storeCells_cells (P := P) g off cs.toList 0 w hc hf (fun v hv => (Array.all_eq_true_iff_forall_mem.1 h1) v (by simpa using hv))
  have hrun : (storeVar ty ⟨g, off, none⟩ (.agg cs)).run P w = .ok () (w.setCells g (off + 0) cs.toList) := by
    cases hq : P.info? ty with
    | none => simp [hq] at hs
    | some i =>
      have hs' : cs.size = i.size := by simp [hq] at hs; omega
      have hst' := hst
      simp only [Nat.add_zero] at hst'
      simp [storeVar, sizeOf, typeInfo, hq, Value.cells, hs', hst']
  unfold Oper.wp execOp
  simp only [ho, hx, hy, Instr.storeAt, Instr.sureAddr, Sem.run_bind, Sem.run_pure, Result.andThen_ok, hrun]
  show K (a.put o.dst undef) _
  rw [hd]
  exact h
end
theorem st_one (x : JSt) : (stC x).all (·.oneCell') = true := by simp [Value.oneCell']
end Go.Proofs.YtbhdlclaooohfaaGreatDoor

