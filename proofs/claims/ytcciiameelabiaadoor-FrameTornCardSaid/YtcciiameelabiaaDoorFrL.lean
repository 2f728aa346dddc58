/- The reference's Row. -/
import Derived.Test.YtcciiameelabiaaDoorFrK
namespace Go.Proofs.YtcciiameelabiaaDoor
open Go.ChangeShapes Go.WideShapes Go.ChangeAt Go.RowKit
set_option linter.unusedVariables false
set_option linter.unusedSimpArgs false

theorem line_size : (Tryd.prog.info? 39).map (·.size) = some 3 := by kernel_rfl
theorem res_line {fn : Func} {p : Tmp} (h : fn.results = #[.cell p 39]) (tmps : Array Value) (w : World) (g : Nat) (t : TypeId) (cs : Array Value) (fr : Nat × Nat)
    (hp : tmps.getD p undef = .pointer (some ⟨g, 0, none⟩)) (hg : w.heap[g]? = some (.cells cs t fr)) (hs : cs.size = 3) :
    (results fn tmps).run Tryd.prog w = .ok (.agg cs) w :=
  results_cell_row h tmps w g t cs fr _ hp hg Tryd.underlying39 rfl (by rw [hs]; exact line_size)
def RRowP (l : List Int) (w : World) (e : Ending) (w' : World) : Prop :=
  ∃ k v, RowEnd l k ∧ e = .returned (.agg #[v, .int .i64 (rowK l k).used, .int .i64 (rowEr l (rowK l k))]) ∧ Frs w.heap.size w' v (rowK l k).fs ∧ Below w.heap.size w w'
theorem blk_store3 {w : World} {g : Nat} {cs : Array Value} {t : TypeId} (h : w.heap[g]? = some (.cells cs t (0, 0))) (h3 : cs.size = 3) (a b c : Value) :
    (((w.setCell ⟨g, 0, none⟩ a).setCell ⟨g, 1, none⟩ b).setCell ⟨g, 2, none⟩ c).heap[g]? = some (.cells #[a, b, c] t (0, 0)) := by
  have h1 := blk_set (blk_set (blk_set h 0 a) 1 b) 2 c
  rw [h1]
  obtain ⟨l⟩ := cs
  match l, h3 with
  | [x0, x1, x2], _ => rfl
theorem mod_store3 {w : World} {g : Nat} (a b c : Value) : Mod [g] w (((w.setCell ⟨g, 0, none⟩ a).setCell ⟨g, 1, none⟩ b).setCell ⟨g, 2, none⟩ c) :=
  (((Mod.refl [g] w).setCell (p := ⟨g, 0, none⟩) (Or.inl (by simp)) _).setCell (p := ⟨g, 1, none⟩) (Or.inl (by simp)) _).setCell (p := ⟨g, 2, none⟩) (Or.inl (by simp)) _

/-- the reference's Line in block g, the answer's cell in block r -/
structure LnW (w wr : World) (l : List Int) (s : RowS) (er : Int) : Prop where
  ex : ∃ v, wr.heap[w.heap.size + 1]? = some (.cells #[v, .int .i64 s.used, .int .i64 er] 39 (0, 0)) ∧ Frs w.heap.size wr v s.fs
  ans : wr.heap[w.heap.size]? = some (.cells #[.slice none 0 0, .int .i64 0, .int .i64 0] 39 (0, 0))
  below : Below w.heap.size w wr
  size : w.heap.size ≤ wr.heap.size

theorem Frs.shape'' {B : Nat} {w : World} {v : Value} {fs : List FV} (h : Frs B w v fs) : ∃ a n cap, v = .slice a n cap := by
  obtain ⟨a, cap, h⟩ := h.shape
  exact ⟨a, _, cap, h⟩

set_option maxHeartbeats 2000000 in
theorem rrow_any (l : List Int) (a : Option Addr) (n cap : Nat) (w : World) (hc : Cells8 w a l) (hn : n = l.length) (hcap : l.length ≤ cap) (hl : l.length ≤ 1000000) :
    Calls Tryd.prog 19 #[.slice a n cap] w (RRowP l w) := by
  subst hn
  have HC := Lib.hid hc
  clear hc
  have HW0 : Hid (LnW w ((w.alloc (.cells #[.slice none 0 0, .int .i64 0, .int .i64 0] 39)).alloc (.cells #[.slice none 0 0, .int .i64 0, .int .i64 0] 39)) l (rowK l 0) 0) := Lib.hid (by
    have hs : (w.alloc (.cells #[.slice none 0 0, .int .i64 0, .int .i64 0] 39)).heap.size = w.heap.size + 1 := by simp
    have h4 := heap_alloc_new (w.alloc (.cells #[.slice none 0 0, .int .i64 0, .int .i64 0] 39)) (.cells #[.slice none 0 0, .int .i64 0, .int .i64 0] 39)
    rw [hs] at h4
    exact ⟨⟨_, h4, Frs.nil _ _⟩, ((Mod.refl [] _).alloc _).row (heap_alloc_new w _) (by simp), (((Mod.refl [] w).alloc _).alloc _).toBelow (Nat.le_refl _) (by simp), by simp; omega⟩)
  go_enter Tryd.func19, Tryd.ntmps19
  go_wp2_with fail
  generalize (w.alloc (.cells #[.slice none 0 0, .int .i64 0, .int .i64 0] 39)).alloc (.cells #[.slice none 0 0, .int .i64 0, .int .i64 0] 39) = w0 at *
  go_loopg [] (l.length) (fun gk wr => ∃ k : Nat, l.length = gk + (rowK l k).used ∧ LnW w wr l (rowK l k) 0)
  case atStart => exact ⟨0, by simp [rowK], HW0.out⟩
  case round =>
    obtain ⟨k, hgk, hw⟩ := hrel
    have HGk := Lib.hid hgk
    have HW := Lib.hid hw
    obtain ⟨v, hv, hf⟩ := hw.ex
    obtain ⟨av, cv, rfl⟩ := hf.shape
    have hfacts := rowK_facts HC.out.1 k
    have hsz := hw.size
    have HF := Lib.hid hf
    have HG := Lib.hid hv
    have hk1 := blk_cell hv 1
    clear hw hf hv hgk
    by_cases hlt : (rowK l k).used < l.length
    · have HAt := Lib.hid (rat_any l a cap l.length (rowK l k).used wr (HC.out.old HW.out.below) rfl hcap (by omega) (by omega) (by omega))
      by_cases he : atE l (rowK l k).used = 0
      · have HStep := Lib.hid (rowK_step hlt he)
        have hq := lenN_le HC.out.1 hlt
        have hf := atF_ok' he
        have hlen : (atF l (rowK l k).used).len = lenN l (rowK l k).used := by rw [hf]
        have HLen := Lib.hid hlen
        have hqp := lenN_pos l (rowK l k).used
        have HOpen : Hid (∀ e w', AtP l (rowK l k).used wr e w' → ∃ pa pc, e = .returned (.tuple #[.agg #[.int .i64 (atF l (rowK l k).used).at_, .int .i64 (atF l (rowK l k).used).len, .int .i64 (atF l (rowK l k).used).kind, .slice pa (atF l (rowK l k).used).pay.length pc], .int .i64 0]) ∧ Pay wr.heap.size w' pa (atF l (rowK l k).used).pay ∧ Below wr.heap.size wr w') := Lib.hid fun e w' h => by
          obtain ⟨pa, pc, h1, h2, h3⟩ := h.open
          rw [he] at h1
          exact ⟨pa, pc, h1, h2, h3⟩
        generalize hP : AtP l (rowK l k).used wr = P at HAt HOpen
        clear hP he hf hlen
        generalize atF l (rowK l k).used = f at *
        generalize lenN l (rowK l k).used = q at *
        generalize rowK l k = S at *
        obtain ⟨fs, u⟩ := S
        obtain ⟨f0, f1, f2, fp⟩ := f
        simp only at *
        have hf1 : f1 = (q : Int) := HLen.out
        subst hf1
        clear HLen
        go_wp2_with (first
          | (go_at_call 16; refine HAt.out.mono ?_; intro e w1 hx; obtain ⟨pa, pc, rfl, hp, hbl⟩ := HOpen.out _ _ hx; have HB1 := Lib.hid (HW.out.below.trans (hbl.mono hsz)); have HF1 := Lib.hid (HF.out.quiet (Mod.ofBelow hbl)); have HP1 := Lib.hid (hp.low hsz); have hsz1 := hbl.size; have HG1 := Lib.hid ((Mod.ofBelow hbl).row HG.out (by simp)); have HA1 := Lib.hid ((Mod.ofBelow hbl).row HW.out.ans (by simp)); have hga := blk_cell (((Mod.refl [] w1).alloc (.cells #[.int .i64 f0, .int .i64 q, .int .i64 f2, .slice pa fp.length pc] 30)).row HG1.out (by simp)) 0; clear hp hbl hx)
          | (at_builtin; refine wpList_appendF _ rfl _ _ 35 35 rfl Tryd.underlying35 info_frame w.heap.size (w1.alloc (.cells #[.int .i64 f0, .int .i64 q, .int .i64 f2, .slice pa fp.length pc] 30)) _ fs rfl (HF1.out.quiet ((Mod.refl [] w1).alloc _)) ⟨f0, q, f2, fp⟩ pa pc (HP1.out.mod ((Mod.refl [] w1).alloc _) (by simp)) rfl (by simp; omega) (w1.heap.size + 1) (by simp) rfl Tryd.underlying35 (by omega) ?_))
        intro v2 w2 hg
        have hma : Mod [] w1 ((w1.alloc (.cells #[.int .i64 f0, .int .i64 q, .int .i64 f2, .slice pa fp.length pc] 30)).alloc (.cells #[.int .i64 f0, .int .i64 q, .int .i64 f2, .slice pa fp.length pc] 30)) := ((Mod.refl [] w1).alloc _).alloc _
        have hnt : ∀ x, x ∈ (Value.slice av fs.length cv).ownBlock.toList → IsT 30 w1 x := by
          intro x hx
          obtain ⟨xs, h1, _⟩ := HF1.out.ex
          exact owns_isT h1 (by simpa using hx)
        have hm2 : Mod (Value.slice av fs.length cv).ownBlock.toList w1 w2 := (hma.mono (by simp)).trans hg.mod
        have hG2 := hm2.row HG1.out (fun hx => (hnt _ hx).ne (by decide) ⟨_, HG1.out⟩)
        have hA2 := hm2.row HA1.out (fun hx => (hnt _ hx).ne (by decide) ⟨_, HA1.out⟩)
        have hblk : w2.heap[w1.heap.size]? = some (.cells #[.int .i64 f0, .int .i64 q, .int .i64 f2, .slice pa fp.length pc] 30 (0, 0)) :=
          hg.mod.row (((Mod.refl [] _).alloc _).row (heap_alloc_new w1 _) (by simp)) (fun hx => Nat.lt_irrefl _ (HF1.out.lt (by simpa using hx)))
        have hq1 := blk_cell hblk 1
        have hc0 := blk_cell hG2 0
        have hc1 := blk_cell hG2 1
        have hz0 := blk_free hG2 0
        have hz1 := blk_free hG2 1
        have HF2 := Lib.hid hg.frs
        have HB2 := Lib.hid ((HB1.out.trans (hma.toBelow (Nat.le_trans hsz hsz1) (by simp))).trans hg.below)
        have hsz2 := hg.size
        have HG2 := Lib.hid hG2
        have HA2 := Lib.hid hA2
        have hne3 : ¬ w1.heap.size = w.heap.size + 1 := by have := (Array.getElem?_eq_some_iff.1 HG1.out).1; omega
        have hw1 : IntKind.i64.wrap ((u : Int) + (q : Int)) = u + q := IntWalk.i64_in _ (by omega)
        obtain ⟨a3, n3, c3, rfl⟩ := hg.frs.shape''
        clear hma hnt hm2 hG2 hA2 hblk hg hga
        go_wp2_with fail
        go_roundg (gk - q)
        case measure => have := HGk.out; omega
        case rel =>
          have hmS : Mod [w.heap.size + 1] w2 ((w2.setCell ⟨w.heap.size + 1, 0, none⟩ (.slice a3 n3 c3)).setCell ⟨w.heap.size + 1, 1, none⟩ (.int .i64 (u + q))) := ((Mod.refl [w.heap.size + 1] w2).setCell (p := ⟨w.heap.size + 1, 0, none⟩) (Or.inl (by simp)) _).setCell (p := ⟨w.heap.size + 1, 1, none⟩) (Or.inl (by simp)) _
          have hT : ∀ x, x ∈ [w.heap.size + 1] → IsT 39 w2 x := by intro x hx; simp at hx; subst hx; exact ⟨_, HG2.out⟩
          refine ⟨k + 1, by rw [HStep.out]; have := HGk.out; simp only; omega, ?_⟩
          rw [HStep.out]
          refine ⟨⟨.slice a3 n3 c3, ?_, HF2.out.mod hmS (fun x hx => ⟨(hT x hx).ne (by decide), (hT x hx).ne (by decide)⟩)⟩, hmS.row HA2.out (by simp), HB2.out.trans (hmS.toBelow hsz2 (by simp)), Nat.le_trans hsz2 hmS.size⟩
          have := blk_set (blk_set HG2.out 0 (.slice a3 n3 c3)) 1 (.int .i64 (u + q))
          simpa using this
      · have HEnd : Hid (RowEnd l k) := Lib.hid fun h => he h.2
        have HEr : Hid (rowEr l (rowK l k) = atE l (rowK l k).used) := Lib.hid (by rw [rowEr, if_pos hlt])
        have HOpen : Hid (∀ e w', AtP l (rowK l k).used wr e w' → ∃ pa pc, e = .returned (.tuple #[.agg #[.int .i64 (atF l (rowK l k).used).at_, .int .i64 (atF l (rowK l k).used).len, .int .i64 (atF l (rowK l k).used).kind, .slice pa (atF l (rowK l k).used).pay.length pc], .int .i64 (atE l (rowK l k).used)]) ∧ Pay wr.heap.size w' pa (atF l (rowK l k).used).pay ∧ Below wr.heap.size wr w') := Lib.hid fun e w' h => h.open
        have hb : (atE l (rowK l k).used != 0) = true := by rw [bne_iff_ne]; exact he
        generalize hP : AtP l (rowK l k).used wr = P at HAt HOpen
        clear hP he
        generalize atF l (rowK l k).used = f at *
        generalize atE l (rowK l k).used = er at *
        generalize hR : rowK l k = R at *
        obtain ⟨fs, u⟩ := R
        obtain ⟨f0, f1, f2, fp⟩ := f
        simp only at *
        have HR := Lib.hid hR
        clear hR
        go_wp2_with (go_at_call 16; refine HAt.out.mono ?_; intro e w1 hx; obtain ⟨pa, pc, rfl, hp, hbl⟩ := HOpen.out _ _ hx; have HB1 := Lib.hid ((HW.out.below.trans (hbl.mono hsz)).trans (((Mod.refl [] w1).alloc (.cells #[.int .i64 f0, .int .i64 f1, .int .i64 f2, .slice pa fp.length pc] 30)).toBelow (Nat.le_trans hsz hbl.size) (by simp))); have HM1 := Lib.hid ((Mod.ofBelow hbl).trans ((Mod.refl [] w1).alloc (.cells #[.int .i64 f0, .int .i64 f1, .int .i64 f2, .slice pa fp.length pc] 30))); have hG := HM1.out.row HG.out (by simp); have hA := HM1.out.row HW.out.ans (by simp); have HG1 := Lib.hid hG; have HA1 := Lib.hid hA; have hc0 := blk_cell hG 0; have hc1 := blk_cell hG 1; have hc2 := blk_cell hG 2; have hz2 := blk_free hG 2; have ha0 := blk_cell hA 0; have ha1 := blk_cell hA 1; have ha2 := blk_cell hA 2; have hy0 := blk_free hA 0; have hy1 := blk_free hA 1; have hy2 := blk_free hA 2; clear hp hbl hx hG hA hk1)
        have hmY : Mod [w.heap.size + 1] (w1.alloc (.cells #[.int .i64 f0, .int .i64 f1, .int .i64 f2, .slice pa fp.length pc] 30)) ((w1.alloc (.cells #[.int .i64 f0, .int .i64 f1, .int .i64 f2, .slice pa fp.length pc] 30)).setCell ⟨w.heap.size + 1, 2, none⟩ (.int .i64 er)) := (Mod.refl [w.heap.size + 1] _).setCell (p := ⟨w.heap.size + 1, 2, none⟩) (Or.inl (by simp)) _
        have hAY := hmY.row HA1.out (by simp)
        have hT1 : ∀ x, x ∈ [w.heap.size + 1] → IsT 39 (w1.alloc (.cells #[.int .i64 f0, .int .i64 f1, .int .i64 f2, .slice pa fp.length pc] 30)) x := by intro x hx; simp at hx; subst hx; exact ⟨_, HG1.out⟩
        have hT2 : ∀ x, x ∈ [w.heap.size] → IsT 39 ((w1.alloc (.cells #[.int .i64 f0, .int .i64 f1, .int .i64 f2, .slice pa fp.length pc] 30)).setCell ⟨w.heap.size + 1, 2, none⟩ (.int .i64 er)) x := by intro x hx; simp at hx; subst hx; exact ⟨_, hAY⟩
        have hsX : w.heap.size ≤ (w1.alloc (.cells #[.int .i64 f0, .int .i64 f1, .int .i64 f2, .slice pa fp.length pc] 30)).heap.size := Nat.le_trans hsz HM1.out.size
        refine bodyPost_ret (v := .agg #[.slice av fs.length cv, .int .i64 u, .int .i64 er]) (res_line rfl _ _ w.heap.size _ #[.slice av fs.length cv, .int .i64 u, .int .i64 er] (0, 0) rfl (blk_store3 hAY rfl _ _ _) rfl) rfl ⟨k, .slice av fs.length cv, HEnd.out, ?_, ?_, ?_⟩
        · rw [HR.out, HEr.out]
        · rw [HR.out]; exact ((HF.out.quiet HM1.out).mod hmY (fun x hx => ⟨(hT1 x hx).ne (by decide), (hT1 x hx).ne (by decide)⟩)).mod (mod_store3 _ _ _) (fun x hx => ⟨(hT2 x hx).ne (by decide), (hT2 x hx).ne (by decide)⟩)
        · exact (HB1.out.trans (hmY.toBelow hsX (by simp))).trans ((mod_store3 _ _ _).toBelow (Nat.le_trans hsX hmY.size) (by simp))
    · have HEnd : Hid (RowEnd l k) := Lib.hid fun h => hlt h.1
      have HEr : Hid (rowEr l (rowK l k) = 0) := Lib.hid (by rw [rowEr, if_neg hlt])
      generalize hR : rowK l k = R at *
      obtain ⟨fs, u⟩ := R
      simp only at *
      have HR := Lib.hid hR
      have hc0 := blk_cell HG.out 0
      have hc2 := blk_cell HG.out 2
      have ha0 := blk_cell HW.out.ans 0
      have ha1 := blk_cell HW.out.ans 1
      have ha2 := blk_cell HW.out.ans 2
      have hy0 := blk_free HW.out.ans 0
      have hy1 := blk_free HW.out.ans 1
      have hy2 := blk_free HW.out.ans 2
      clear hR
      go_wp2_with fail
      have hT : ∀ x, x ∈ [w.heap.size] → IsT 39 wr x := by intro x hx; simp at hx; subst hx; exact ⟨_, HW.out.ans⟩
      refine bodyPost_ret (v := .agg #[.slice av fs.length cv, .int .i64 u, .int .i64 0]) (res_line rfl _ _ w.heap.size _ #[.slice av fs.length cv, .int .i64 u, .int .i64 0] (0, 0) rfl (blk_store3 HW.out.ans rfl _ _ _) rfl) rfl ⟨k, .slice av fs.length cv, HEnd.out, ?_, ?_, ?_⟩
      · rw [HR.out, HEr.out]
      · rw [HR.out]; exact HF.out.mod (mod_store3 _ _ _) (fun x hx => ⟨(hT x hx).ne (by decide), (hT x hx).ne (by decide)⟩)
      · exact HW.out.below.trans ((mod_store3 _ _ _).toBelow hsz (by simp))
end Go.Proofs.YtcciiameelabiaaDoor
