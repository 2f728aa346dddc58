/- A row of frames in memory; Row. -/
import Derived.Test.YtcciiameelabiaaDoorFrE
import Derived.Test.YtcciiameelabiaaDoorFrR
import Derived.OwnWalk
namespace Go.Proofs.YtcciiameelabiaaDoor
open Go.ChangeShapes Go.WideShapes Go.ChangeAt Go.RowKit
set_option linter.unusedVariables false
set_option linter.unusedSimpArgs false

/-- the cells of frames, each payload in a row of bytes that the call made -/
def FLs (B : Nat) (w : World) : List FV → List Value → Prop
  | [], xs => xs = []
  | f :: fs, xs => ∃ pa pc r, xs = (frCs f pa pc).toList ++ r ∧ Pay B w pa f.pay ∧ FLs B w fs r
theorem FLs.snoc {B : Nat} {w : World} {f : FV} {pa : Option Addr} {pc : Nat} (hp : Pay B w pa f.pay) : ∀ (fs : List FV) (xs : List Value), FLs B w fs xs → FLs B w (fs ++ [f]) (xs ++ (frCs f pa pc).toList)
  | [], xs, h => by
    subst h
    exact ⟨pa, pc, [], by simp, hp, rfl⟩
  | g :: fs, xs, h => by
    obtain ⟨pa', pc', r, rfl, h1, h2⟩ := h
    exact ⟨pa', pc', r ++ (frCs f pa pc).toList, by simp, h1, FLs.snoc hp fs r h2⟩
theorem FLs.mod {B : Nat} {F : List Nat} {w w' : World} (hm : Mod F w w') (hF : ∀ x, B ≤ x → x ∈ F → ¬ ∃ cur, w.heap[x]? = some (.cells cur 5 (0, 0))) : ∀ (fs : List FV) (xs : List Value), FLs B w fs xs → FLs B w' fs xs
  | [], xs, h => h
  | g :: fs, xs, h => by
    obtain ⟨pa', pc', r, rfl, h1, h2⟩ := h
    exact ⟨pa', pc', r, rfl, h1.mod hm hF, FLs.mod hm hF fs r h2⟩
theorem FLs.low {B B' : Nat} {w : World} (hB : B' ≤ B) : ∀ (fs : List FV) (xs : List Value), FLs B w fs xs → FLs B' w fs xs
  | [], xs, h => h
  | g :: fs, xs, h => by
    obtain ⟨pa', pc', r, rfl, h1, h2⟩ := h
    exact ⟨pa', pc', r, rfl, h1.low hB, FLs.low hB fs r h2⟩
/-- frame i's cells -/
theorem FLs.at_ {B : Nat} {w : World} : ∀ (fs : List FV) (xs : List Value), FLs B w fs xs → ∀ (i : Nat) (h : i < fs.length), ∃ pa pc, Pay B w pa fs[i].pay ∧
    xs[4 * i]? = some (.int .i64 fs[i].at_) ∧ xs[4 * i + 1]? = some (.int .i64 fs[i].len) ∧ xs[4 * i + 2]? = some (.int .i64 fs[i].kind) ∧ xs[4 * i + 3]? = some (.slice pa fs[i].pay.length pc)
  | [], xs, h, i, hi => by simp at hi
  | g :: fs, xs, h, i, hi => by
    obtain ⟨pa, pc, r, rfl, h1, h2⟩ := h
    cases i with
    | zero => exact ⟨pa, pc, h1, rfl, rfl, rfl, rfl⟩
    | succ i =>
      obtain ⟨pa', pc', k1, k2, k3, k4, k5⟩ := FLs.at_ fs r h2 i (by simpa using hi)
      have e : ∀ j, ((frCs g pa pc).toList ++ r)[4 * (i + 1) + j]? = r[4 * i + j]? := by
        intro j
        rw [List.getElem?_append_right (by simp [frCs]; omega)]
        congr 1
        simp [frCs]; omega
      have e0 : ((frCs g pa pc).toList ++ r)[4 * (i + 1)]? = r[4 * i]? := e 0
      exact ⟨pa', pc', by simpa using k1, by rw [e0]; simpa using k2, by rw [e 1]; simpa using k3, by rw [e 2]; simpa using k4, by rw [e 3]; simpa using k5⟩

/-- a slice of the call's own that holds frames -/
structure Frs (B : Nat) (w : World) (v : Value) (fs : List FV) : Prop where
  ex : ∃ xs, w.ownsRow B 30 4 v fs.length xs ∧ FLs B w fs xs
theorem Frs.nil (B : Nat) (w : World) : Frs B w (.slice none 0 0) [] := ⟨[], World.ownsRow_nil _ _ _ _, rfl⟩
theorem Frs.shape {B : Nat} {w : World} {v : Value} {fs : List FV} (h : Frs B w v fs) : ∃ a cap, v = .slice a fs.length cap := by
  obtain ⟨xs, h, _⟩ := h.ex
  obtain ⟨a, cap, h, _⟩ := owns_shape h
  exact ⟨a, cap, h⟩
/-- a block of that type -/
def IsT (t : TypeId) (w : World) (x : Nat) : Prop := ∃ cur, w.heap[x]? = some (.cells cur t (0, 0))
theorem owns_isT {w : World} {base : Nat} {e : TypeId} {size : Nat} {v : Value} {m : Nat} {xs : List Value} (h : w.ownsRow base e size v m xs) {k : Nat} (hk : v.ownBlock = some k) : IsT e w k := by
  rcases h.2 with ⟨rfl, _⟩ | ⟨g, c, cur, rfl, hb, hh, _⟩
  · cases hk
  · simp [Value.ownBlock] at hk
    subst hk
    exact ⟨cur, hh⟩
theorem IsT.ne {t t' : TypeId} {w : World} {x : Nat} (h : IsT t w x) (hne : t ≠ t') : ¬ IsT t' w x := by
  rintro ⟨c', h'⟩
  obtain ⟨c, h⟩ := h
  rw [h] at h'
  injection h' with h'
  injection h' with _ h1
  exact hne h1
theorem Frs.mod {B : Nat} {F : List Nat} {w w' : World} {v : Value} {fs : List FV} (h : Frs B w v fs) (hm : Mod F w w') (hF : ∀ x, x ∈ F → ¬ IsT 5 w x ∧ ¬ IsT 30 w x) : Frs B w' v fs := by
  obtain ⟨xs, h1, h2⟩ := h.ex
  exact ⟨xs, hm.owns h1 (fun k hk hk' => (hF k hk').2 (owns_isT h1 hk)), h2.mod hm (fun x _ hx => (hF x hx).1)⟩
theorem Frs.quiet {B : Nat} {w w' : World} {v : Value} {fs : List FV} (h : Frs B w v fs) (hm : Mod [] w w') : Frs B w' v fs := h.mod hm (by simp)

theorem Frs.lt {B : Nat} {w : World} {v : Value} {fs : List FV} (h : Frs B w v fs) {k : Nat} (hk : v.ownBlock = some k) : k < w.heap.size := by
  obtain ⟨xs, h1, h2⟩ := h.ex
  exact (h1.lt k hk).2
theorem Src.litF {P : Program} (w : World) (c0 c1 c2 c3 : Value) (hb : ∀ u ∈ [c0, c1, c2, c3], u.oneCell' = true) {tx e : TypeId} (hk : P.underlying tx = some (.slice e)) :
    Src P 4 tx (.slice (some ⟨w.heap.size, 0, none⟩) 1 1) 1 [c0, c1, c2, c3] (w.alloc (.cells #[c0, c1, c2, c3] 30)) := by
  refine Src.ofSlice _ hk _ 1 1 _ rfl ?_ hb
  intro j u hu
  rw [Addr.add_lit, Nat.zero_add, cell_of_row _ _ _ _ _ _ (heap_alloc_new w _)]
  simpa using hu
/-- behind an append of a frame -/
structure GrewF (B : Nat) (w0 w : World) (v : Value) (fs : List FV) (v' : Value) (w' : World) : Prop where
  frs : Frs B w' v' fs
  mod : Mod v.ownBlock.toList w w'
  below : Below B w w'
  size : B ≤ w'.heap.size
theorem wpList_appendF {P : Program} (w : World) {ops : Array Oper} {rest : List Oper} {o : Oper} {a : Act} {Q : Exit → Act → World → Prop} (hgd : o.guard = none) (s x : Operand) (t tx : TypeId)
    (ho : o.op = .call { callee := .builtin .append, args := #[s, x], argTypes := #[t, tx] })
    (ht : P.underlying t = some (.slice 30)) (hi : (P.info? 30).map (fun i => (i.zero, i.size, i.bytes)) = some (some (.agg zeroCs), 4, 48))
    (B : Nat) (w0 : World) (v : Value) (fs : List FV) (hs : a.eval s = v) (hf : Frs B w0 v fs) (f : FV) (pa : Option Addr) (pc : Nat) (hp : Pay B w0 pa f.pay) (hw : w = w0.alloc (.cells #[.int .i64 f.at_, .int .i64 f.len, .int .i64 f.kind, .slice pa f.pay.length pc] 30)) (hB : B ≤ w0.heap.size)
    (g : Nat) (hg : w0.heap.size = g) (hx : a.eval x = .slice (some ⟨g, 0, none⟩) 1 1) (htx : P.underlying tx = some (.slice 30)) (hlen : fs.length ≤ 1000000000)
    (h : ∀ v' w', GrewF B w0 w v (fs ++ [f]) v' w' → wpList P ops Q rest (a.put o.dst v') w') : wpList P ops Q (o :: rest) a w := by
  subst hw
  subst hg
  obtain ⟨i, hi1, hi2, hi3, hi4⟩ := info_parts hi
  have hm0 : Mod [] w0 (w0.alloc (.cells #[.int .i64 f.at_, .int .i64 f.len, .int .i64 f.kind, .slice pa f.pay.length pc] 30)) := (Mod.refl [] w0).alloc _
  have hf1 := hf.quiet hm0
  have hp1 := hp.mod hm0 (by simp)
  obtain ⟨xs, h1, h2⟩ := hf1.ex
  refine wpList_append_src _ hgd s x t tx ho B 30 i _ 4 48 ht hi1 hi2 hi3 hi4 rfl v _ _ hs h1 _ _ _ hx (Src.litF w0 _ _ _ _ (by intro u hu; simp at hu; rcases hu with rfl | rfl | rfl | rfl <;> rfl) htx) (by simp only [maxLen]; omega) (by omega) (by simp; omega) ?_
  intro v' w' k1 k2 k3
  have hmod := Mod.ofGrown k2
  refine h v' w' ⟨⟨xs ++ [.int .i64 f.at_, .int .i64 f.len, .int .i64 f.kind, .slice pa f.pay.length pc], by simpa using k1, ?_⟩, hmod, hmod.toBelow (by simp; omega) ?_, Nat.le_trans (by simp; omega) hmod.size⟩
  · refine FLs.snoc (f := f) (pa := pa) (pc := pc) (hp1.mod hmod ?_) fs xs (h2.mod hmod ?_)
    · intro y _ hy; exact (owns_isT h1 (by simpa using hy)).ne (by decide)
    · intro y _ hy; exact (owns_isT h1 (by simpa using hy)).ne (by decide)
  · intro y hy
    exact (h1.lt y (by simpa using hy)).1

theorem AtP.open {l : List Int} {i : Int} {w : World} {e : Ending} {w' : World} (h : AtP l i w e w') : ∃ pa pc, e = .returned (.tuple #[.agg #[.int .i64 (atF l i).at_, .int .i64 (atF l i).len, .int .i64 (atF l i).kind, .slice pa (atF l i).pay.length pc], .int .i64 (atE l i)]) ∧ Pay w.heap.size w' pa (atF l i).pay ∧ Below w.heap.size w w' := by
  obtain ⟨pa, pc, h1, h2, _, h3⟩ := h
  exact ⟨pa, pc, h1, h2, h3⟩

def RowP (l : List Int) (w : World) (e : Ending) (w' : World) : Prop :=
  ∃ k v, RowEnd l k ∧ e = .returned (.tuple #[v, .int .i64 (rowK l k).used, .int .i64 (rowEr l (rowK l k))]) ∧ Frs w.heap.size w' v (rowK l k).fs ∧ Below w.heap.size w w'

set_option maxHeartbeats 1000000 in
theorem row_any (l : List Int) (a : Option Addr) (n cap : Nat) (w : World) (hc : Cells8 w a l) (hn : n = l.length) (hcap : l.length ≤ cap) (hl : l.length ≤ 1000000000) (ht : Halves w) :
    Calls Tryd.prog 18 #[.slice a n cap] w (RowP l w) := by
  subst hn
  have HC := Lib.hid hc
  have HT := Lib.hid ht
  clear hc ht
  go_enter Tryd.func18, Tryd.ntmps18
  go_wp2_with fail
  go_loopw [2, 3] (fun v u wr => ∃ k : Nat, u = .int .i64 (rowK l k).used ∧ Frs w.heap.size wr v (rowK l k).fs ∧ Below w.heap.size w wr ∧ w.heap.size ≤ wr.heap.size) (fun _ u _ => (l.length - intOf u).toNat)
  case atStart => exact ⟨0, rfl, Frs.nil _ _, Below.refl _ _, Nat.le_refl _⟩
  case round =>
    obtain ⟨k, rfl, hf, hb, hsz⟩ := hrel
    have HF := Lib.hid hf
    have HB := Lib.hid hb
    obtain ⟨av, cv, rfl⟩ := hf.shape
    have hfacts := rowK_facts HC.out.1 k
    clear hf hb
    by_cases hlt : (rowK l k).used < l.length
    · have HAt := Lib.hid (at_any l a cap l.length (rowK l k).used wr (HC.out.old HB.out) rfl hcap (by omega) (by omega) (by omega) (HT.out.old HB.out))
      by_cases he : atE l (rowK l k).used = 0
      · have HStep := Lib.hid (rowK_step hlt he)
        have hq := lenN_le HC.out.1 hlt
        have hf := atF_ok' he
        have hlen : (atF l (rowK l k).used).len = lenN l (rowK l k).used := by rw [hf]
        have HLen := Lib.hid hlen
        have hqp := lenN_pos l (rowK l k).used
        have HOpen : Hid (∀ e w', AtP l (rowK l k).used wr e w' → ∃ pa pc, e = .returned (.tuple #[.agg #[.int .i64 (atF l (rowK l k).used).at_, .int .i64 (atF l (rowK l k).used).len, .int .i64 (atF l (rowK l k).used).kind, .slice pa (atF l (rowK l k).used).pay.length pc], .int .i64 0]) ∧ Pay wr.heap.size w' pa (atF l (rowK l k).used).pay ∧ Below wr.heap.size wr w') := Lib.hid fun e w' h => by
          obtain ⟨pa, pc, h1, h2, h3⟩ := h.open
          rw [he] at h1
          exact ⟨pa, pc, h1, h2, h3⟩
        generalize hP : AtP l (rowK l k).used wr = P at HAt HOpen
        clear hP he hf hlen
        generalize atF l (rowK l k).used = f at *
        generalize lenN l (rowK l k).used = q at *
        generalize (rowK l k).used = u at *
        generalize (rowK l k).fs = fs at *
        obtain ⟨f0, f1, f2, fp⟩ := f
        have hf1 : f1 = (q : Int) := HLen.out
        subst hf1
        simp only at HOpen
        go_wp2_with (first
          | (go_at_call 15; refine HAt.out.mono ?_; intro e w1 hx; obtain ⟨pa, pc, rfl, hp, hbl⟩ := HOpen.out _ _ hx
             have HB1 := Lib.hid (HB.out.trans (hbl.mono hsz))
             have HF1 := Lib.hid (HF.out.quiet (Mod.ofBelow hbl))
             have HP1 := Lib.hid (hp.low hsz)
             have hsz1 := hbl.size
             clear hp hbl hx)
          | (at_builtin; refine wpList_appendF _ rfl _ _ 35 35 rfl Tryd.underlying35 info_frame w.heap.size (w1.alloc (.cells #[.int .i64 f0, .int .i64 q, .int .i64 f2, .slice pa fp.length pc] 30)) _ fs rfl (HF1.out.quiet ((Mod.refl [] w1).alloc _)) ⟨f0, q, f2, fp⟩ pa pc (HP1.out.mod ((Mod.refl [] w1).alloc _) (by simp)) rfl (by simp; omega) (w1.heap.size + 1) (by simp) rfl Tryd.underlying35 (by omega) ?_))
        intro v2 w2 hg
        have hblk : w2.heap[w1.heap.size]? = some (.cells #[.int .i64 f0, .int .i64 q, .int .i64 f2, .slice pa fp.length pc] 30 (0, 0)) :=
          hg.mod.row (((Mod.refl [] _).alloc _).row (heap_alloc_new w1 _) (by simp)) (fun hx => Nat.lt_irrefl _ (HF1.out.lt (by simpa using hx)))
        have hq1 := blk_cell hblk 1
        have HF2 := Lib.hid hg.frs
        have HB2 := Lib.hid ((HB1.out.trans ((((Mod.refl [] w1).alloc _).alloc _).toBelow (Nat.le_trans hsz hsz1) (by simp))).trans hg.below)
        have hsz2 := hg.size
        clear hg hblk
        obtain ⟨a3, c3, rfl⟩ := HF2.out.shape
        go_wp2_with fail
        go_roundw
        case rel => exact ⟨k + 1, by rw [HStep.out]; go_num, by rw [HStep.out]; exact HF2.out, HB2.out, hsz2⟩
        case measure => simp [intOf]; omega
      · have HEnd : Hid (RowEnd l k) := Lib.hid fun h => he h.2
        have HEr : Hid (rowEr l (rowK l k) = atE l (rowK l k).used) := Lib.hid (by rw [rowEr, if_pos hlt])
        have HOpen : Hid (∀ e w', AtP l (rowK l k).used wr e w' → ∃ pa pc, e = .returned (.tuple #[.agg #[.int .i64 (atF l (rowK l k).used).at_, .int .i64 (atF l (rowK l k).used).len, .int .i64 (atF l (rowK l k).used).kind, .slice pa (atF l (rowK l k).used).pay.length pc], .int .i64 (atE l (rowK l k).used)]) ∧ Pay wr.heap.size w' pa (atF l (rowK l k).used).pay ∧ Below wr.heap.size wr w') := Lib.hid fun e w' h => h.open
        have hb : (atE l (rowK l k).used != 0) = true := by rw [bne_iff_ne]; exact he
        generalize hP : AtP l (rowK l k).used wr = P at HAt HOpen
        clear hP he
        generalize atF l (rowK l k).used = f at *
        generalize atE l (rowK l k).used = er at *
        generalize hR : rowK l k = R at *
        obtain ⟨fs, u⟩ := R
        simp only at *
        obtain ⟨f0, f1, f2, fp⟩ := f
        simp only at HOpen
        have HR := Lib.hid hR
        clear hR
        go_wp2_with (first
          | (go_at_call 15; refine HAt.out.mono ?_; intro e w1 hx; obtain ⟨pa, pc, rfl, hp, hbl⟩ := HOpen.out _ _ hx
             have HB1 := Lib.hid (HB.out.trans (hbl.mono hsz))
             have HF1 := Lib.hid (HF.out.quiet (Mod.ofBelow hbl))
             have hsz1 := hbl.size
             clear hp hbl hx))
        go_ret3
        refine ⟨k, .slice av fs.length cv, HEnd.out, ?_, ?_, (HB1.out.alloc (Nat.le_trans hsz hsz1) _)⟩
        · rw [HR.out, HEr.out]; rfl
        · rw [HR.out]; exact HF1.out.quiet ((Mod.refl [] _).alloc _)
    · have HEnd : Hid (RowEnd l k) := Lib.hid fun h => hlt h.1
      have HEr : Hid (rowEr l (rowK l k) = 0) := Lib.hid (by rw [rowEr, if_neg hlt])
      generalize hR : rowK l k = R at *
      obtain ⟨fs, u⟩ := R
      simp only at *
      have HR := Lib.hid hR
      clear hR
      go_wp2_with fail
      go_ret3
      refine ⟨k, .slice av fs.length cv, HEnd.out, ?_, ?_, HB.out⟩
      · rw [HR.out, HEr.out]; rfl
      · rw [HR.out]; exact HF.out
end Go.Proofs.YtcciiameelabiaaDoor
