/- A row of gaps in memory; the closure of Scan; Scan. -/
import Derived.Test.YtondgejbmoiggaaDoorFrF
namespace Go.Proofs.YtondgejbmoiggaaDoor
open Go.ChangeShapes Go.WideShapes Go.ChangeAt Go.RowKit
set_option linter.unusedVariables false
set_option linter.unusedSimpArgs false

def gpL (gs : List (Nat × Nat)) : List Value := gs.flatMap fun g => [.int .i64 g.1, .int .i64 g.2]
theorem gpL_append (a b : List (Nat × Nat)) : gpL (a ++ b) = gpL a ++ gpL b := by simp [gpL]
/-- a slice of the call's own that holds gaps -/
structure Gps (B : Nat) (w : World) (v : Value) (gs : List (Nat × Nat)) : Prop where
  own : w.ownsRow B 95 2 v gs.length (gpL gs)
theorem Gps.nil (B : Nat) (w : World) : Gps B w (.slice none 0 0) [] := ⟨World.ownsRow_nil _ _ _ _⟩
theorem Gps.shape {B : Nat} {w : World} {v : Value} {gs : List (Nat × Nat)} (h : Gps B w v gs) : ∃ a cap, v = .slice a gs.length cap := by
  obtain ⟨a, cap, h, _⟩ := owns_shape h.own
  exact ⟨a, cap, h⟩
theorem Gps.mod {B : Nat} {F : List Nat} {w w' : World} {v : Value} {gs : List (Nat × Nat)} (h : Gps B w v gs) (hm : Mod F w w') (hF : ∀ x, x ∈ F → ¬ IsT 95 w x) : Gps B w' v gs :=
  ⟨hm.owns h.own (fun k hk hk' => hF k hk' (owns_isT h.own hk))⟩
theorem Gps.quiet {B : Nat} {w w' : World} {v : Value} {gs : List (Nat × Nat)} (h : Gps B w v gs) (hm : Mod [] w w') : Gps B w' v gs := h.mod hm (by simp)
theorem info_gap : (Tryd.prog.info? 95).map (fun i => (i.zero, i.size, i.bytes)) = some (some (.agg #[.int .i64 0, .int .i64 0]), 2, 16) := by kernel_rfl
theorem Src.litG {P : Program} (w : World) (c0 c1 : Value) (hb : ∀ u ∈ [c0, c1], u.oneCell' = true) {tx e : TypeId} (hk : P.underlying tx = some (.slice e)) :
    Src P 2 tx (.slice (some ⟨w.heap.size, 0, none⟩) 1 1) 1 [c0, c1] (w.alloc (.cells #[c0, c1] 95)) := by
  refine Src.ofSlice _ hk _ 1 1 _ rfl ?_ hb
  intro j u hu
  rw [Addr.add_lit, Nat.zero_add, cell_of_row _ _ _ _ _ _ (heap_alloc_new w _)]
  simpa using hu
theorem wpList_appendG {P : Program} (w : World) {ops : Array Oper} {rest : List Oper} {o : Oper} {a : Act} {Q : Exit → Act → World → Prop} (hgd : o.guard = none) (s x : Operand) (t tx : TypeId)
    (ho : o.op = .call { callee := .builtin .append, args := #[s, x], argTypes := #[t, tx] })
    (ht : P.underlying t = some (.slice 95)) (hi : (P.info? 95).map (fun i => (i.zero, i.size, i.bytes)) = some (some (.agg #[.int .i64 0, .int .i64 0]), 2, 16))
    (B : Nat) (w0 : World) (v : Value) (gs : List (Nat × Nat)) (hs : a.eval s = v) (hf : Gps B w0 v gs) (f t2 : Nat) (hw : w = w0.alloc (.cells #[.int .i64 f, .int .i64 t2] 95)) (hB : B ≤ w0.heap.size)
    (g : Nat) (hg : w0.heap.size = g) (hx : a.eval x = .slice (some ⟨g, 0, none⟩) 1 1) (htx : P.underlying tx = some (.slice 95)) (hlen : gs.length ≤ 1000000000)
    (h : ∀ v' w', Gps B w' v' (gs ++ [(f, t2)]) → Mod v.ownBlock.toList w w' → wpList P ops Q rest (a.put o.dst v') w') : wpList P ops Q (o :: rest) a w := by
  subst hw
  subst hg
  obtain ⟨i, hi1, hi2, hi3, hi4⟩ := info_parts hi
  have hm0 : Mod [] w0 (w0.alloc (.cells #[.int .i64 f, .int .i64 t2] 95)) := (Mod.refl [] w0).alloc _
  have hf1 := hf.quiet hm0
  refine wpList_append_src _ hgd s x t tx ho B 95 i _ 2 16 ht hi1 hi2 hi3 hi4 rfl v _ _ hs hf1.own _ _ _ hx (Src.litG w0 _ _ (by intro u hu; simp at hu; rcases hu with rfl | rfl <;> rfl) htx) (by simp only [maxLen]; omega) (by omega) (by simp; omega) ?_
  intro v' w' k1 k2 k3
  exact h v' w' ⟨by simpa [gpL] using k1⟩ (Mod.ofGrown k2)

/-- the two variables that the closure holds -/
structure Sh (B : Nat) (w : World) (g3 g4 : Nat) (fr : Nat) (vg : Value) (gs : List (Nat × Nat)) : Prop where
  c4 : w.heap[g4]? = some (.cells #[.int .i64 fr] 3 (0, 0))
  c3 : w.heap[g3]? = some (.cells #[vg] 73 (0, 0))
  gps : Gps B w vg gs
  b3 : B ≤ g3
  b4 : B ≤ g4
theorem Sh.mod {B : Nat} {F : List Nat} {w w' : World} {g3 g4 fr : Nat} {vg : Value} {gs : List (Nat × Nat)} (h : Sh B w g3 g4 fr vg gs) (hm : Mod F w w') (h3 : g3 ∉ F) (h4 : g4 ∉ F) (hF : ∀ x, x ∈ F → ¬ IsT 95 w x) : Sh B w' g3 g4 fr vg gs :=
  ⟨hm.row h.c4 h4, hm.row h.c3 h3, h.gps.mod hm hF, h.b3, h.b4⟩
theorem Sh.quiet {B : Nat} {w w' : World} {g3 g4 fr : Nat} {vg : Value} {gs : List (Nat × Nat)} (h : Sh B w g3 g4 fr vg gs) (hm : Mod [] w w') : Sh B w' g3 g4 fr vg gs := h.mod hm (by simp) (by simp) (by simp)
theorem Sh.ne34 {B : Nat} {w : World} {g3 g4 fr : Nat} {vg : Value} {gs : List (Nat × Nat)} (h : Sh B w g3 g4 fr vg gs) : g3 ≠ g4 := by
  rintro rfl
  have h1 := h.c3
  rw [h.c4] at h1
  injection h1 with h1
  injection h1 with _ h1
  exact absurd h1 (by decide)
theorem Sh.ownNe {B : Nat} {w : World} {g3 g4 fr : Nat} {vg : Value} {gs : List (Nat × Nat)} (h : Sh B w g3 g4 fr vg gs) : vg.ownBlock ≠ some g3 ∧ vg.ownBlock ≠ some g4 :=
  ⟨fun e => (owns_isT h.gps.own e).ne (t' := 73) (by decide) ⟨_, h.c3⟩, fun e => (owns_isT h.gps.own e).ne (t' := 3) (by decide) ⟨_, h.c4⟩⟩

def ShutP (B : Nat) (w : World) (g3 g4 fr : Nat) (vg : Value) (gs : List (Nat × Nat)) (e : Ending) (w' : World) : Prop :=
  e = .returned (.tuple #[]) ∧ ∃ vg', Sh B w' g3 g4 fr vg' gs ∧ Mod (g3 :: vg.ownBlock.toList) w w'

set_option maxHeartbeats 1000000 in
theorem shut_any (B : Nat) (g3 g4 fr t2 : Nat) (vg : Value) (gs : List (Nat × Nat)) (w : World) (h : Sh B w g3 g4 fr vg gs) (hB : B ≤ w.heap.size) (hf : fr ≤ 1000000000) (ht : t2 ≤ 1000000000) (hl : gs.length ≤ 1000000000) :
    Calls Tryd.prog 54 #[.int .i64 t2, .pointer (some ⟨g4, 0, none⟩), .pointer (some ⟨g3, 0, none⟩)] w (ShutP B w g3 g4 fr vg (gs ++ openG fr t2)) := by
  have hc4 := blk_cell h.c4 0
  have hc3 := blk_cell h.c3 0
  obtain ⟨av, cv, rfl⟩ := h.gps.shape
  have H := Lib.hid h
  clear h
  by_cases hlt : fr < t2
  · have HO : Hid (gs ++ openG fr t2 = gs ++ [(fr, t2)]) := Lib.hid (by simp [openG, hlt])
    go_enter Tryd.func54, Tryd.ntmps54
    go_wp2_with (at_builtin; refine wpList_appendG _ rfl _ _ 73 73 rfl Tryd.underlying73 info_gap B w _ gs rfl H.out.gps fr t2 rfl hB w.heap.size rfl rfl Tryd.underlying73 hl ?_)
    intro v1 w1 hg hm
    have hne := H.out.ownNe
    have h3 := hm.row (((Mod.refl [] w).alloc _).row H.out.c3 (by simp)) (by simpa using hne.1)
    have h4 := hm.row (((Mod.refl [] w).alloc _).row H.out.c4 (by simp)) (by simpa using hne.2)
    have HG := Lib.hid hg
    have HM := Lib.hid hm
    have H3 := Lib.hid h3
    have H4 := Lib.hid h4
    have hz3 := blk_free h3 0
    have hk3 := blk_cell h3 0
    obtain ⟨a1, c1, rfl⟩ := hg.shape
    clear hg hm h3 h4 hne
    generalize (gs ++ [(fr, t2)]).length = n1 at *
    go_wp2_with fail
    go_end0
    rw [HO.out]
    have hmS : Mod [g3] w1 (w1.setCell ⟨g3, 0, none⟩ (.slice a1 n1 c1)) := (Mod.refl [g3] w1).setCell (p := ⟨g3, 0, none⟩) (Or.inl (by simp)) _
    refine ⟨rfl, .slice a1 n1 c1, ⟨hmS.row H4.out (by simp; exact fun e => H.out.ne34 e.symm), by have := blk_set H3.out 0 (.slice a1 n1 c1); simpa using this, HG.out.mod hmS ?_, H.out.b3, H.out.b4⟩, ?_⟩
    · intro x hx
      simp at hx; subst hx
      exact IsT.ne (t := 73) ⟨_, H3.out⟩ (by decide)
    · refine (((Mod.refl [] w).alloc _).mono (by simp)).trans' ((HM.out.mono (G := g3 :: (Value.slice av gs.length cv).ownBlock.toList) ?_).trans (hmS.mono ?_)) ?_
      · intro x hx; left; simp at hx ⊢; right; exact hx
      · intro x hx; left; simp at hx ⊢; left; exact hx
      · intro x hx; left; exact hx
  · have HO : Hid (gs ++ openG fr t2 = gs) := Lib.hid (by simp [openG, hlt])
    go_enter Tryd.func54, Tryd.ntmps54
    go_wp2_with fail
    go_end0
    rw [HO.out]
    exact ⟨rfl, _, H.out, Mod.refl _ _⟩

def ScanP (l : List Int) (w : World) (e : Ending) (w' : World) : Prop :=
  ∃ k v vg, ScEnd l k ∧ e = .returned (.tuple #[v, vg]) ∧ Frs w.heap.size w' v (scK l k).fs ∧ Gps w.heap.size w' vg (scGaps l (scK l k)) ∧ Below w.heap.size w w'

/-- the world of a scan: frames, the closure's variables -/
structure ScW (w wr : World) (l : List Int) (s : ScS) (v : Value) : Prop where
  frs : Frs w.heap.size wr v s.fs
  sh : ∃ vg, Sh w.heap.size wr w.heap.size (w.heap.size + 1) s.fr vg s.gs
  below : Below w.heap.size w wr
  size : w.heap.size ≤ wr.heap.size
theorem ScW.quiet {w wr w1 : World} {l : List Int} {s : ScS} {v : Value} (h : ScW w wr l s v) (hm : Mod [] wr w1) : ScW w w1 l s v := by
  obtain ⟨h1, ⟨vg, h2⟩, h3, h4⟩ := h
  exact ⟨h1.quiet hm, ⟨vg, h2.quiet hm⟩, h3.trans (hm.toBelow h4 (by simp)), Nat.le_trans h4 hm.size⟩

set_option maxHeartbeats 1000000 in
theorem scan_any (l : List Int) (a : Option Addr) (n cap : Nat) (w : World) (hc : Cells8 w a l) (hn : n = l.length) (hcap : l.length ≤ cap) (hl : l.length ≤ 1000000000) (ht : Halves w) :
    Calls Tryd.prog 40 #[.slice a n cap] w (ScanP l w) := by
  have hmf : ∀ (fn : Fn) (first cp : Array Value) (w : World), (Instr.makeFunc fn first cp).run Tryd.prog w = .ok (.func fn first cp) w := fun _ _ _ _ => rfl
  subst hn
  have HC := Lib.hid hc
  have HT := Lib.hid ht
  clear hc ht
  have HW0 : Hid (ScW w ((w.alloc (.cells #[.slice none 0 0] 73)).alloc (.cells #[.int .i64 0] 3)) l (scK l 0) (.slice none 0 0)) := Lib.hid (by
    have hs : (w.alloc (.cells #[.slice none 0 0] 73)).heap.size = w.heap.size + 1 := by simp
    have h4 := heap_alloc_new (w.alloc (.cells #[.slice none 0 0] 73)) (.cells #[.int .i64 0] 3)
    rw [hs] at h4
    refine ⟨Frs.nil _ _, ⟨.slice none 0 0, h4, ?_, Gps.nil _ _, Nat.le_refl _, by omega⟩, (((Mod.refl [] w).alloc _).alloc _).toBelow (Nat.le_refl _) (by simp), by simp; omega⟩
    exact (((Mod.refl [] _).alloc _).row (heap_alloc_new w _) (by simp)))
  go_enter Tryd.func40, Tryd.ntmps40
  go_wp2_with fail
  generalize (w.alloc (.cells #[.slice none 0 0] 73)).alloc (.cells #[.int .i64 0] 3) = w0 at *
  go_loopw [2, 6] (fun v i wr => ∃ k : Nat, i = .int .i64 (scK l k).at_ ∧ ScW w wr l (scK l k) v) (fun _ i _ => (l.length - intOf i).toNat)
  case atStart => exact ⟨0, rfl, HW0.out⟩
  case round =>
    obtain ⟨k, rfl, hw⟩ := hrel
    have HW := Lib.hid hw
    obtain ⟨av, cv, rfl⟩ := hw.frs.shape
    have hfacts := scK_facts HC.out.1 k
    have hsz := hw.size
    clear hw
    by_cases hlt : (scK l k).at_ < l.length
    · have HAt := Lib.hid (at_any l a cap l.length (scK l k).at_ wr (HC.out.old HW.out.below) rfl hcap (by omega) (by omega) (by omega) (HT.out.old HW.out.below))
      by_cases he : atE l (scK l k).at_ = 0
      · have HStep := Lib.hid (scK_take hlt he)
        have hq := lenN_le HC.out.1 hlt
        have hf := atF_ok' he
        have hlen : (atF l (scK l k).at_).len = lenN l (scK l k).at_ := by rw [hf]
        have HLen := Lib.hid hlen
        have hqp := lenN_pos l (scK l k).at_
        have HOpen : Hid (∀ e w', AtP l (scK l k).at_ wr e w' → ∃ pa pc, e = .returned (.tuple #[.agg #[.int .i64 (atF l (scK l k).at_).at_, .int .i64 (atF l (scK l k).at_).len, .int .i64 (atF l (scK l k).at_).kind, .slice pa (atF l (scK l k).at_).pay.length pc], .int .i64 0]) ∧ Pay wr.heap.size w' pa (atF l (scK l k).at_).pay ∧ Below wr.heap.size wr w' ∧ (atF l (scK l k).at_).pay.length ≤ pc) := Lib.hid fun e w' h => by
          obtain ⟨pa, pc, h1, h2, h3, h4⟩ := h.open
          rw [he] at h1
          exact ⟨pa, pc, h1, h2, h3, h4⟩
        generalize hP : AtP l (scK l k).at_ wr = P at HAt HOpen
        clear hP he hf hlen
        generalize atF l (scK l k).at_ = f at *
        generalize lenN l (scK l k).at_ = q at *
        generalize scK l k = S at *
        obtain ⟨fs, gs, fr, at_⟩ := S
        obtain ⟨f0, f1, f2, fp⟩ := f
        simp only at *
        have hf1 : f1 = (q : Int) := HLen.out
        subst hf1
        clear HLen
        go_wp2_with (go_at_call 55; refine HAt.out.mono ?_; intro e w1 hx; obtain ⟨pa, pc, rfl, hp, hbl, hcp⟩ := HOpen.out _ _ hx; have HCp := Lib.hid hcp; clear hcp
                     have HW1 := Lib.hid ((HW.out.quiet (Mod.ofBelow hbl)).quiet ((Mod.refl [] w1).alloc (.cells #[.int .i64 f0, .int .i64 q, .int .i64 f2, .slice pa fp.length pc] 77)))
                     have HP1 := Lib.hid ((hp.low hsz).mod ((Mod.refl [] w1).alloc (.cells #[.int .i64 f0, .int .i64 q, .int .i64 f2, .slice pa fp.length pc] 77)) (by simp))
                     have HZ1 := Lib.hid (heap_alloc_new w1 (.cells #[.int .i64 f0, .int .i64 q, .int .i64 f2, .slice pa fp.length pc] 77))
                     have hsz1 := hbl.size
                     have HNe : Hid ((Value.slice av fs.length cv).ownBlock ≠ some w1.heap.size) := Lib.hid (fun e => by have := HW.out.frs.lt e; omega)
                     clear hp hbl hx)
        obtain ⟨vg, hsh⟩ := HW1.out.sh
        generalize hgf : w1.heap.size = gf at *
        clear hgf
        generalize w1.alloc (.cells #[.int .i64 f0, .int .i64 q, .int .i64 f2, .slice pa fp.length pc] 77) = w2 at *
        refine (shut_any w.heap.size _ _ fr at_ vg gs w2 hsh HW1.out.size (by omega) (by omega) (by omega)).mono ?_
        rintro e w3 ⟨rfl, vg3, hsh3, hm3⟩
        have hnt : ∀ x, x ∈ w.heap.size :: vg.ownBlock.toList → ¬ IsT 5 w2 x ∧ ¬ IsT 77 w2 x := by
          intro x hx
          rcases List.mem_cons.1 hx with rfl | hx
          · have h : IsT 73 w2 w.heap.size := ⟨_, hsh.c3⟩
            exact ⟨h.ne (by decide), h.ne (by decide)⟩
          · have h := owns_isT hsh.gps.own (by simpa using hx)
            exact ⟨h.ne (by decide), h.ne (by decide)⟩
        have HF3 := Lib.hid (HW1.out.frs.mod hm3 hnt)
        have HP3 := Lib.hid (HP1.out.mod hm3 (fun x _ hx => (hnt x hx).1))
        have hblk : w3.heap[gf]? = some (.cells #[.int .i64 f0, .int .i64 q, .int .i64 f2, .slice pa fp.length pc] 77 (0, 0)) := hm3.row HZ1.out (fun hx => (hnt _ hx).2 ⟨_, HZ1.out⟩)
        have HB3 : Hid (Below w.heap.size w w3) := Lib.hid (HW1.out.below.trans (hm3.toBelow HW1.out.size (by
          intro x hx
          rcases List.mem_cons.1 hx with rfl | hx
          · exact Nat.le_refl _
          · exact (hsh.gps.own.lt x (by simpa using hx)).1)))
        have hsz3 : w.heap.size ≤ w3.heap.size := Nat.le_trans HW1.out.size hm3.size
        have HS3 := Lib.hid hsh3
        have HK := Lib.hid hblk
        have hq0 := blk_cell hblk 0
        have hq1 := blk_cell hblk 1
        have hq2 := blk_cell hblk 2
        have hq3 := blk_cell hblk 3
        clear hsh3 hm3 hblk hnt hsh HW1 HP1 HZ1
        go_wp2_with (at_builtin; refine wpList_appendF _ rfl _ _ 72 72 rfl Tryd.underlying72 info_frame w.heap.size w3 _ fs rfl HF3.out ⟨f0, q, f2, fp⟩ pa pc HP3.out HCp.out rfl hsz3 w3.heap.size rfl rfl Tryd.underlying72 (by omega) ?_)
        intro v4 w4 hg
        have hnt : ∀ x, x ∈ (Value.slice av fs.length cv).ownBlock.toList → IsT 77 w3 x := by
          intro x hx
          obtain ⟨xs, h1, _⟩ := HF3.out.ex
          exact owns_isT h1 (by simpa using hx)
        have hma : Mod [] w3 (w3.alloc (.cells #[.int .i64 f0, .int .i64 q, .int .i64 f2, .slice pa fp.length pc] 77)) := (Mod.refl [] w3).alloc _
        have hm4 : Mod (Value.slice av fs.length cv).ownBlock.toList w3 w4 := (hma.mono (by simp)).trans hg.mod
        have hsh4 : Sh w.heap.size w4 w.heap.size (w.heap.size + 1) fr vg3 (gs ++ openG fr at_) := HS3.out.mod hm4 (fun hx => (hnt _ hx).ne (by decide) ⟨_, HS3.out.c3⟩) (fun hx => (hnt _ hx).ne (by decide) ⟨_, HS3.out.c4⟩) (fun x hx => (hnt _ hx).ne (by decide))
        have hblk4 := hm4.row HK.out (fun hx => HNe.out (by simpa using hx))
        have hr1 := blk_cell hblk4 1
        have HF4 := Lib.hid hg.frs
        have HB4 := Lib.hid ((HB3.out.trans (hma.toBelow hsz3 (by simp))).trans hg.below)
        have hsz4 := hg.size
        have HS4 := Lib.hid hsh4
        have hz4 := blk_free hsh4.c4 0
        have hk4 := blk_cell hsh4.c4 0
        obtain ⟨a4, c4, rfl⟩ := hg.frs.shape
        clear hnt hma hm4 hsh4 hblk4 hg hq0 hq1 hq2 hq3
        have hw1 : IntKind.i64.wrap ((at_ : Int) + (q : Int)) = at_ + q := IntWalk.i64_in _ (by omega)
        go_wp2_with fail
        go_roundw
        case rel =>
          refine ⟨k + 1, by rw [HStep.out]; go_num, ?_⟩
          have hmS : Mod [w.heap.size + 1] w4 (w4.setCell ⟨w.heap.size + 1, 0, none⟩ (.int .i64 (at_ + q))) := (Mod.refl [w.heap.size + 1] w4).setCell (p := ⟨w.heap.size + 1, 0, none⟩) (Or.inl (by simp)) _
          have hT : ∀ x, x ∈ [w.heap.size + 1] → IsT 3 w4 x := by intro x hx; simp at hx; subst hx; exact ⟨_, HS4.out.c4⟩
          rw [HStep.out]
          refine ⟨HF4.out.mod hmS (fun x hx => ⟨(hT x hx).ne (by decide), (hT x hx).ne (by decide)⟩), ⟨vg3, ?_, hmS.row HS4.out.c3 (by simp), HS4.out.gps.mod hmS (fun x hx => (hT x hx).ne (by decide)), HS4.out.b3, HS4.out.b4⟩, HB4.out.trans (hmS.toBelow hsz4 (by simp)), Nat.le_trans hsz4 hmS.size⟩
          have := blk_set HS4.out.c4 0 (.int .i64 (at_ + q))
          simpa using this
        case measure => simp [intOf]; omega
      · have HStep := Lib.hid (scK_skip hlt he)
        have HOpen : Hid (∀ e w', AtP l (scK l k).at_ wr e w' → ∃ pa pc, e = .returned (.tuple #[.agg #[.int .i64 (atF l (scK l k).at_).at_, .int .i64 (atF l (scK l k).at_).len, .int .i64 (atF l (scK l k).at_).kind, .slice pa (atF l (scK l k).at_).pay.length pc], .int .i64 (atE l (scK l k).at_)]) ∧ Pay wr.heap.size w' pa (atF l (scK l k).at_).pay ∧ Below wr.heap.size wr w' ∧ (atF l (scK l k).at_).pay.length ≤ pc) := Lib.hid fun e w' h => h.open
        have hb : (atE l (scK l k).at_ != 0) = true := by rw [bne_iff_ne]; exact he
        generalize hP : AtP l (scK l k).at_ wr = P at HAt HOpen
        clear hP he
        generalize atF l (scK l k).at_ = f at *
        generalize atE l (scK l k).at_ = er at *
        generalize scK l k = S at *
        obtain ⟨fs, gs, fr, at_⟩ := S
        obtain ⟨f0, f1, f2, fp⟩ := f
        simp only at *
        go_wp2_with (go_at_call 55; refine HAt.out.mono ?_; intro e w1 hx; obtain ⟨pa, pc, rfl, hp, hbl, hcp⟩ := HOpen.out _ _ hx; have HCp := Lib.hid hcp; clear hcp
                     have HW1 := Lib.hid (HW.out.quiet (Mod.ofBelow hbl))
                     clear hp hbl hx)
        go_roundw
        case rel => exact ⟨k + 1, by rw [HStep.out]; go_num, by rw [HStep.out]; obtain ⟨h1, h2, h3, h4⟩ := HW1.out.quiet ((Mod.refl [] w1).alloc (.cells #[.int .i64 f0, .int .i64 f1, .int .i64 f2, .slice pa fp.length pc] 77)); exact ⟨h1, h2, h3, h4⟩⟩
        case measure => simp [intOf]; omega
    · have HEnd : Hid (ScEnd l k) := Lib.hid hlt
      have hel : (scK l k).at_ = l.length := by omega
      generalize hS : scK l k = S at *
      obtain ⟨fs, gs, fr, at_⟩ := S
      simp only at *
      have HS := Lib.hid hS
      have HEl := Lib.hid hel
      obtain ⟨vg, hsh⟩ := HW.out.sh
      have HSh := Lib.hid (shut_any w.heap.size _ _ fr l.length vg gs wr hsh hsz (by omega) (by omega) (by omega))
      have HT2 : Hid (∀ x, vg.ownBlock = some x → IsT 95 wr x) := Lib.hid fun x hx => owns_isT hsh.gps.own hx
      have HT4 : Hid (∀ x ∈ w.heap.size :: vg.ownBlock.toList, w.heap.size ≤ x) := Lib.hid (by
        intro x hx
        rcases List.mem_cons.1 hx with rfl | hx
        · exact Nat.le_refl _
        · exact (hsh.gps.own.lt x (by simpa using hx)).1)
      clear hS hel hsh
      go_wp2_with (go_at_call 54; refine HSh.out.mono ?_; rintro e w3 ⟨rfl, vg3, hsh3, hm3⟩; have HS3 := Lib.hid hsh3; have HM3 := Lib.hid hm3; have hc3 := blk_cell hsh3.c3 0; have hz3 := blk_free hsh3.c3 0; clear hsh3 hm3)
      obtain ⟨ag, cg, hv⟩ := HS3.out.gps.shape
      generalize (gs ++ openG fr l.length).length = ng at hv
      subst hv
      go_region
      go_wp2_with fail
      have hmS : Mod [w.heap.size] w3 ((w3.setCell ⟨w.heap.size, 0, none⟩ (.slice ag ng cg)).drew) := ((Mod.refl [w.heap.size] w3).setCell (p := ⟨w.heap.size, 0, none⟩) (Or.inl (by simp)) _).drew
      have hT3 : ∀ x, x ∈ [w.heap.size] → IsT 73 w3 x := by intro x hx; simp at hx; subst hx; exact ⟨_, HS3.out.c3⟩
      have hnt : ∀ x, x ∈ w.heap.size :: vg.ownBlock.toList → ¬ IsT 5 wr x ∧ ¬ IsT 77 wr x := by
        obtain ⟨vg', hsh⟩ := HW.out.sh
        intro x hx
        rcases List.mem_cons.1 hx with rfl | hx
        · have h : IsT 73 wr w.heap.size := ⟨_, hsh.c3⟩
          exact ⟨h.ne (by decide), h.ne (by decide)⟩
        · have h := HT2.out x (by simpa using hx)
          exact ⟨h.ne (by decide), h.ne (by decide)⟩
      have hb3 : Below w.heap.size w w3 := HW.out.below.trans (HM3.out.toBelow hsz HT4.out)
      have hk := blk_set HS3.out.c3 0 (.slice ag ng cg)
      have hcell : (w3.setCell ⟨w.heap.size, 0, none⟩ (.slice ag ng cg)).cell? ⟨w.heap.size, 0, none⟩ = some (.slice ag ng cg) := by
        have := blk_cell hk 0
        simpa using this
      refine bodyPost_ret (v := .tuple #[.slice av fs.length cv, .slice ag ng cg]) (by simp [results, Tryd.results40, go_sem, hcell]) rfl ⟨k, _, _, HEnd.out, rfl, ?_, ?_, ?_⟩
      · rw [HS.out]
        exact (HW.out.frs.mod HM3.out hnt).mod hmS (fun x hx => ⟨(hT3 x hx).ne (by decide), (hT3 x hx).ne (by decide)⟩)
      · rw [HS.out]
        exact HS3.out.gps.mod hmS (fun x hx => (hT3 x hx).ne (by decide))
      · exact hb3.trans (hmS.toBelow (Nat.le_trans hsz HM3.out.size) (by simp))
end Go.Proofs.YtondgejbmoiggaaDoor
