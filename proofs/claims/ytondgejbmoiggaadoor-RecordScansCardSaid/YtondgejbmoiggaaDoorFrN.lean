/- The reference's Scan. -/
import Derived.Test.YtondgejbmoiggaaDoorFrL
import Derived.Test.YtondgejbmoiggaaDoorFrH
import Derived.Test.YtondgejbmoiggaaDoorReg
namespace Go.Proofs.YtondgejbmoiggaaDoor
open Go.ChangeShapes Go.WideShapes Go.ChangeAt Go.RowKit
set_option linter.unusedVariables false
set_option linter.unusedSimpArgs false

theorem found_size : (Tryd.prog.info? 79).map (·.size) = some 2 := by kernel_rfl
theorem res_found {fn : Func} {p : Tmp} (h : fn.results = #[.cell p 79]) (tmps : Array Value) (w : World) (g : Nat) (t : TypeId) (cs : Array Value) (fr : Nat × Nat)
    (hp : tmps.getD p undef = .pointer (some ⟨g, 0, none⟩)) (hg : w.heap[g]? = some (.cells cs t fr)) (hs : cs.size = 2) :
    (results fn tmps).run Tryd.prog w = .ok (.agg cs) w :=
  results_cell_row h tmps w g t cs fr _ hp hg Tryd.underlying79 rfl (by rw [hs]; exact found_size)
/-- the reference's gaps: the open one among them -/
def rgs (s : ScS) : List (Nat × Nat) := s.gs ++ openG s.fr s.at_
theorem scK_gs {l : List Int} (hb : Bytes l) (k : Nat) : ∀ g ∈ (scK l k).gs, g.2 < (scK l k).fr := by
  induction k with
  | zero => intro g hg; simp [scK] at hg
  | succ k ih =>
    have hf := scK_facts hb k
    have hp := lenN_pos l (scK l k).at_
    rw [scK]
    split
    · split
      · intro g hg
        simp only [List.mem_append] at hg ⊢
        rcases hg with hg | hg
        · have := ih g hg; omega
        · unfold openG at hg
          split at hg
          · simp at hg; subst hg; simp only; omega
          · cases hg
      · exact ih
    · exact ih
theorem rgs_take {l : List Int} {k : Nat} (h1 : (scK l k).at_ < l.length) (h2 : atE l (scK l k).at_ = 0) : rgs (scK l (k + 1)) = rgs (scK l k) := by
  rw [scK_take h1 h2]; simp [rgs, openG]
/-- a byte that no frame begins at makes the last gap longer, or a gap anew -/
theorem rgs_skip {l : List Int} (hb : Bytes l) {k : Nat} (h1 : (scK l k).at_ < l.length) (h2 : atE l (scK l k).at_ ≠ 0) :
    (∃ G f, rgs (scK l k) = G ++ [(f, (scK l k).at_)] ∧ f ≤ (scK l k).at_ ∧ rgs (scK l (k + 1)) = G ++ [(f, (scK l k).at_ + 1)]) ∨
    ((rgs (scK l k) = [] ∨ ∃ G f t, rgs (scK l k) = G ++ [(f, t)] ∧ t ≠ (scK l k).at_) ∧ rgs (scK l (k + 1)) = rgs (scK l k) ++ [((scK l k).at_, (scK l k).at_ + 1)]) := by
  rw [scK_skip h1 h2]
  have hf := scK_facts hb k
  have hg := scK_gs hb k
  generalize scK l k = s at *
  obtain ⟨fs, gs, fr, at_⟩ := s
  simp only [rgs] at *
  by_cases hlt : fr < at_
  · left
    refine ⟨gs, fr, ?_, by omega, ?_⟩
    · simp [openG, hlt]
    · rw [openG, if_pos (by omega)]
  · right
    have e : fr = at_ := by omega
    subst e
    have e1 : openG fr (fr + 1) = [(fr, fr + 1)] := by simp [openG]
    have e2 : openG fr fr = [] := by simp [openG]
    rw [e1, e2, List.append_nil]
    refine ⟨?_, rfl⟩
    rcases List.eq_nil_or_concat gs with h | ⟨G, x, h⟩
    · exact Or.inl h
    · right
      obtain ⟨f, t⟩ := x
      rw [List.concat_eq_append] at h
      refine ⟨G, f, t, h, ?_⟩
      have := hg (f, t) (by rw [h]; simp)
      simp only at this
      omega
theorem rgs_len {l : List Int} (hb : Bytes l) (k : Nat) : (rgs (scK l k)).length ≤ (scK l k).at_ + 1 := by
  have := scK_facts hb k
  have h3 : (openG (scK l k).fr (scK l k).at_).length ≤ 1 := by unfold openG; split <;> simp
  simp only [rgs, List.length_append]; omega
theorem rgs_end {l : List Int} (hb : Bytes l) {k : Nat} (h : ScEnd l k) : rgs (scK l k) = scGaps l (scK l k) := by
  have := scK_facts hb k
  have e : (scK l k).at_ = l.length := by unfold ScEnd at h; omega
  rw [rgs, scGaps, e]
/-- the last gap's place in memory -/
theorem Gps.last {B : Nat} {w : World} {v : Value} {G : List (Nat × Nat)} {f t : Nat} (h : Gps B w v (G ++ [(f, t)])) : ∃ g cap, v = .slice (some ⟨g, 0, none⟩) (G.length + 1) cap ∧ G.length + 1 ≤ cap ∧
    w.cell? ⟨g, 2 * G.length, none⟩ = some (.int .i64 f) ∧ w.cell? ⟨g, 2 * G.length + 1, none⟩ = some (.int .i64 t) := by
  obtain ⟨g, cap, hv, hc⟩ := h.addr (by simp)
  have hl : (G ++ [(f, t)]).length = G.length + 1 := by simp
  rw [hl] at hv
  have := hc G.length (by simp)
  simp only [List.getElem_concat_length] at this
  subst hv
  exact ⟨g, cap, rfl, owns_le h.own, this.1, this.2⟩

theorem Gps.lit {B : Nat} (w : World) (gs : List (Nat × Nat)) (cs : Array Value) (hc : cs.toList = gpL gs) (n : Nat) (hn : n = gs.length) (hB : B ≤ w.heap.size) (hl : n ≤ maxLen) :
    Gps B (w.alloc (.cells cs 95)) (.slice (some ⟨w.heap.size, 0, none⟩) n n) gs := by
  subst hn
  have hlen : ∀ gs : List (Nat × Nat), (gpL gs).length = gs.length * 2 := by
    intro gs
    induction gs with
    | nil => rfl
    | cons x G ih => have : gpL (x :: G) = .int .i64 x.1 :: .int .i64 x.2 :: gpL G := rfl
                     rw [this]; simp only [List.length_cons, ih]; omega
  have := World.ownsRow_lit (base := B) (e := 95) (size := 2) w cs gs.length hB hl (by rw [← hlen, ← hc, Array.length_toList])
  rw [hc] at this
  exact ⟨this⟩
theorem Gps.shape' {B : Nat} {w : World} {v : Value} {gs : List (Nat × Nat)} (h : Gps B w v gs) : ∃ a n cap, v = .slice a n cap := by
  obtain ⟨a, cap, h⟩ := h.shape
  exact ⟨a, _, cap, h⟩
structure GrewG (B : Nat) (w : World) (v : Value) (gs : List (Nat × Nat)) (v' : Value) (w' : World) : Prop where
  gps : Gps B w' v' gs
  mod : Mod v.ownBlock.toList w w'
  blk : v'.ownBlock = v.ownBlock ∨ v'.ownBlock = some w.heap.size
theorem step_append_src {P : Program} (w : World) {ops : Array Oper} {o : Oper} {a : Act} {K : Act → World → Prop} {Q : Exit → Act → World → Prop} {E : Prop} (hgd : o.guard = none) (s x : Operand) (t tx : TypeId)
    (ho : o.op = .call { callee := .builtin .append, args := #[s, x], argTypes := #[t, tx] })
    (base : Nat) (e : TypeId) (size bytes : Nat) (z : Value) (ht : P.underlying t = some (.slice e)) (hi : (P.info? e).map (fun i => (i.zero, i.size, i.bytes)) = some (some z, size, bytes)) (hzs : z.cells.size = size)
    (v : Value) (n : Nat) (xs : List Value) (hs : a.eval s = v) (hown : w.ownsRow base e size v n xs)
    (xv : Value) (m : Nat) (news : List Value) (hx : a.eval x = xv) (hsrc : Src P size tx xv m news w) (h63 : n + m ≤ maxLen) (hby : (n + m) * bytes ≤ 140737488355328) (hbase : base ≤ w.heap.size)
    (h : ∀ v' w', w'.ownsRow base e size v' (n + m) (xs ++ news) → Mod v.ownBlock.toList w w' → (v'.ownBlock = v.ownBlock ∨ v'.ownBlock = some w.heap.size) → K (a.put o.dst v') w') : if Region.wanted o (yielded ops a.tmps) = true then Oper.wp P o a w K Q else E := by
  have hw : Region.wanted o (yielded ops a.tmps) = true := by simp [Region.wanted, hgd]
  rw [if_pos hw]
  obtain ⟨i, hi1, hi2, hi3, hi4⟩ := info_parts hi
  obtain ⟨v', w', hr, h1, h2, h3⟩ := run_append_src (P := P) w base t tx o.type e i z size bytes ht hi1 hi2 hi3 hi4 hzs v n xs hown xv m news hsrc h63 hby hbase
  unfold Oper.wp execOp
  simp only [ho, resolve, invoke, builtin, Sem.run_bind, Sem.run_pure, Result.andThen_ok, List.map_toArray, List.map_cons, List.map_nil, hs, hx, hr]
  exact h v' w' h1 (Mod.ofGrown h2) h3
/-- a part of a row of gaps, from its beginning -/
theorem Src.ofGps {P : Program} {B : Nat} {w : World} {g cap n : Nat} {G r : List (Nat × Nat)} (h : Gps B w (.slice (some ⟨g, 0, none⟩) n cap) (G ++ r)) {tx e : TypeId} (hk : P.underlying tx = some (.slice e)) (m c : Nat) (hm : m = G.length) :
    Src P 2 tx (.slice (some ⟨g, 0, none⟩) m c) m (gpL G) w := by
  subst hm
  obtain ⟨_, _, hv⟩ := h.shape
  simp only [Value.slice.injEq] at hv
  obtain ⟨_, rfl, _⟩ := hv
  have hlen : (gpL G).length = G.length * 2 := by
    clear h
    induction G with
    | nil => rfl
    | cons x G ih => have : gpL (x :: G) = .int .i64 x.1 :: .int .i64 x.2 :: gpL G := rfl
                     rw [this]; simp only [List.length_cons, ih]; omega
  refine Src.ofSlice w hk _ _ _ (gpL G) hlen ?_ ?_
  · intro j u hu
    have hj : j < (gpL G).length := (List.getElem?_eq_some_iff.1 hu).1
    rw [Addr.add_lit, Nat.zero_add]
    have hl2 : (G ++ r).length * 2 = (gpL (G ++ r)).length := h.own.1.symm
    have := h.own.cellAt j (by simp only [List.length_append]; omega)
    rw [this, gpL_append, List.getElem?_append_left hj]
    exact hu
  · intro u hu
    simp only [gpL, List.mem_flatMap] at hu
    obtain ⟨x, _, hu⟩ := hu
    simp at hu
    rcases hu with rfl | rfl <;> rfl

def RScanP (l : List Int) (w : World) (e : Ending) (w' : World) : Prop :=
  ∃ k v vg, ScEnd l k ∧ e = .returned (.agg #[v, vg]) ∧ Frs w.heap.size w' v (scK l k).fs ∧ Gps w.heap.size w' vg (scGaps l (scK l k)) ∧ Below w.heap.size w w'
/-- the reference's Found in block B + 1, the answer's cell in block B -/
structure FdW (w wr : World) (fs : List FV) (gs : List (Nat × Nat)) : Prop where
  ex : ∃ v vg, wr.heap[w.heap.size + 1]? = some (.cells #[v, vg] 79 (0, 0)) ∧ Frs w.heap.size wr v fs ∧ Gps w.heap.size wr vg gs
  ans : wr.heap[w.heap.size]? = some (.cells #[.slice none 0 0, .slice none 0 0] 79 (0, 0))
  below : Below w.heap.size w wr
  size : w.heap.size ≤ wr.heap.size

/-- behind the store of the gaps -/
theorem fd_end {w wr w2 w9 : World} {fs : List FV} {rg2 : List (Nat × Nat)} {v vg v9 : Value}
    (ha : wr.heap[w.heap.size]? = some (.cells #[.slice none 0 0, .slice none 0 0] 79 (0, 0))) (hb : Below w.heap.size w wr) (hs : w.heap.size ≤ wr.heap.size)
    (hf : Frs w.heap.size wr v fs) (hm : Mod [] wr w2) (h9 : Mod [] w2 w9) (hr : w9.heap[w.heap.size + 1]? = some (.cells #[v, vg] 79 (0, 0))) (hg : Gps w.heap.size w9 v9 rg2) :
    FdW w (w9.setCell ⟨w.heap.size + 1, 1, none⟩ v9) fs rg2 := by
  have hm9 := hm.trans h9
  have hmS : Mod [w.heap.size + 1] w9 (w9.setCell ⟨w.heap.size + 1, 1, none⟩ v9) := (Mod.refl [w.heap.size + 1] w9).setCell (p := ⟨w.heap.size + 1, 1, none⟩) (Or.inl (by simp)) _
  have hT : ∀ x, x ∈ [w.heap.size + 1] → IsT 79 w9 x := by intro x hx; simp at hx; subst hx; exact ⟨_, hr⟩
  have hs9 := Nat.le_trans hs hm9.size
  refine ⟨⟨v, v9, ?_, (hf.quiet hm9).mod hmS (fun x hx => ⟨(hT x hx).ne (by decide), (hT x hx).ne (by decide)⟩), hg.mod hmS (fun x hx => (hT x hx).ne (by decide))⟩, hmS.row (hm9.row ha (by simp)) (by simp), (hb.trans (hm9.toBelow hs (by simp))).trans (hmS.toBelow hs9 (by simp)), Nat.le_trans hs9 hmS.size⟩
  have := blk_set hr 1 v9
  simpa using this

set_option maxRecDepth 100000 in
set_option maxHeartbeats 4000000 in
theorem rscan_any (l : List Int) (a : Option Addr) (n cap : Nat) (w : World) (hc : Cells8 w a l) (hn : n = l.length) (hcap : l.length ≤ cap) (hl : l.length ≤ 1000000) :
    Calls Tryd.prog 41 #[.slice a n cap] w (RScanP l w) := by
  subst hn
  have HC := Lib.hid hc
  clear hc
  have HW0 : Hid (FdW w ((w.alloc (.cells #[.slice none 0 0, .slice none 0 0] 79)).alloc (.cells #[.slice none 0 0, .slice none 0 0] 79)) (scK l 0).fs (rgs (scK l 0))) := Lib.hid (by
    have hs : (w.alloc (.cells #[.slice none 0 0, .slice none 0 0] 79)).heap.size = w.heap.size + 1 := by simp
    have h4 := heap_alloc_new (w.alloc (.cells #[.slice none 0 0, .slice none 0 0] 79)) (.cells #[.slice none 0 0, .slice none 0 0] 79)
    rw [hs] at h4
    exact ⟨⟨_, _, h4, Frs.nil _ _, Gps.nil _ _⟩, ((Mod.refl [] _).alloc _).row (heap_alloc_new w _) (by simp), (((Mod.refl [] w).alloc _).alloc _).toBelow (Nat.le_refl _) (by simp), by simp; omega⟩)
  go_enter Tryd.func41, Tryd.ntmps41
  go_wp2_with fail
  generalize (w.alloc (.cells #[.slice none 0 0, .slice none 0 0] 79)).alloc (.cells #[.slice none 0 0, .slice none 0 0] 79) = w0 at *
  go_loopw [4] (fun i wr => ∃ k : Nat, i = .int .i64 (scK l k).at_ ∧ FdW w wr (scK l k).fs (rgs (scK l k))) (fun i _ => (l.length - intOf i).toNat)
  case atStart => exact ⟨0, rfl, HW0.out⟩
  case round =>
    obtain ⟨k, rfl, hw⟩ := hrel
    have HW := Lib.hid hw
    obtain ⟨v, vg, hv, hf, hgp⟩ := hw.ex
    obtain ⟨av, cv, rfl⟩ := hf.shape
    have hfacts := scK_facts HC.out.1 k
    have hgl := rgs_len HC.out.1 k
    have hsz := hw.size
    have HF := Lib.hid hf
    have HP := Lib.hid hgp
    have HG := Lib.hid hv
    clear hw hf hv hgp
    by_cases hlt : (scK l k).at_ < l.length
    · have HAt := Lib.hid (rat_any l a cap l.length (scK l k).at_ wr (HC.out.old HW.out.below) rfl hcap (by omega) (by omega) (by omega))
      by_cases he : atE l (scK l k).at_ = 0
      · -- [Xtake
        have HRt := Lib.hid (rgs_take hlt he)
        have HStep : Hid ((scK l (k + 1)).fs = (scK l k).fs ++ [atF l (scK l k).at_] ∧ (scK l (k + 1)).at_ = (scK l k).at_ + lenN l (scK l k).at_) := Lib.hid (by rw [scK_take hlt he]; exact ⟨rfl, rfl⟩)
        have hq := lenN_le HC.out.1 hlt
        have hf := atF_ok' he
        have hlen : (atF l (scK l k).at_).len = lenN l (scK l k).at_ := by rw [hf]
        have HLen := Lib.hid hlen
        have hqp := lenN_pos l (scK l k).at_
        have HOpen : Hid (∀ e w', AtP l (scK l k).at_ wr e w' → ∃ pa pc, e = .returned (.tuple #[.agg #[.int .i64 (atF l (scK l k).at_).at_, .int .i64 (atF l (scK l k).at_).len, .int .i64 (atF l (scK l k).at_).kind, .slice pa (atF l (scK l k).at_).pay.length pc], .int .i64 0]) ∧ Pay wr.heap.size w' pa (atF l (scK l k).at_).pay ∧ Below wr.heap.size wr w' ∧ (atF l (scK l k).at_).pay.length ≤ pc) := Lib.hid fun e w' h => by
          obtain ⟨pa, pc, h1, h2, h3, h4⟩ := h.open
          rw [he] at h1
          exact ⟨pa, pc, h1, h2, h3, h4⟩
        generalize hP : AtP l (scK l k).at_ wr = P at HAt HOpen
        clear hP he hf hlen
        have hk1 := blk_cell HG.out 1
        generalize atF l (scK l k).at_ = f at *
        generalize lenN l (scK l k).at_ = q at *
        generalize rgs (scK l k) = rg at *
        generalize (scK l k).fs = fs at *
        generalize (scK l k).at_ = at_ at *
        obtain ⟨f0, f1, f2, fp⟩ := f
        simp only at *
        have hf1 : f1 = (q : Int) := HLen.out
        subst hf1
        clear HLen
        go_wp2_with (first
          | (go_at_call 56; refine HAt.out.mono ?_; intro e w1 hx; obtain ⟨pa, pc, rfl, hp, hbl, hcp⟩ := HOpen.out _ _ hx; have HCp := Lib.hid hcp; clear hcp; have HB1 := Lib.hid (HW.out.below.trans (hbl.mono hsz)); have HF1 := Lib.hid (HF.out.quiet (Mod.ofBelow hbl)); have HPg1 := Lib.hid (HP.out.quiet (Mod.ofBelow hbl)); have HP1 := Lib.hid (hp.low hsz); have hsz1 := hbl.size; have HG1 := Lib.hid ((Mod.ofBelow hbl).row HG.out (by simp)); have HA1 := Lib.hid ((Mod.ofBelow hbl).row HW.out.ans (by simp)); have hga := blk_cell (((Mod.refl [] w1).alloc (.cells #[.int .i64 f0, .int .i64 q, .int .i64 f2, .slice pa fp.length pc] 77)).row HG1.out (by simp)) 0; clear hp hbl hx)
          | (at_builtin; refine wpList_appendF _ rfl _ _ 72 72 rfl Tryd.underlying72 info_frame w.heap.size (w1.alloc (.cells #[.int .i64 f0, .int .i64 q, .int .i64 f2, .slice pa fp.length pc] 77)) _ fs rfl (HF1.out.quiet ((Mod.refl [] w1).alloc _)) ⟨f0, q, f2, fp⟩ pa pc (HP1.out.mod ((Mod.refl [] w1).alloc _) (by simp)) HCp.out rfl (by simp; omega) (w1.heap.size + 1) (by simp) rfl Tryd.underlying72 (by omega) ?_))
        intro v2 w2 hg
        have hma : Mod [] w1 ((w1.alloc (.cells #[.int .i64 f0, .int .i64 q, .int .i64 f2, .slice pa fp.length pc] 77)).alloc (.cells #[.int .i64 f0, .int .i64 q, .int .i64 f2, .slice pa fp.length pc] 77)) := ((Mod.refl [] w1).alloc _).alloc _
        have hnt : ∀ x, x ∈ (Value.slice av fs.length cv).ownBlock.toList → IsT 77 w1 x := by
          intro x hx
          obtain ⟨xs, h1, _⟩ := HF1.out.ex
          exact owns_isT h1 (by simpa using hx)
        have hm2 : Mod (Value.slice av fs.length cv).ownBlock.toList w1 w2 := (hma.mono (by simp)).trans hg.mod
        have hG2 := hm2.row HG1.out (fun hx => (hnt _ hx).ne (by decide) ⟨_, HG1.out⟩)
        have hA2 := hm2.row HA1.out (fun hx => (hnt _ hx).ne (by decide) ⟨_, HA1.out⟩)
        have HPg2 := Lib.hid (HPg1.out.mod hm2 (fun x hx => (hnt x hx).ne (by decide)))
        have hblk : w2.heap[w1.heap.size]? = some (.cells #[.int .i64 f0, .int .i64 q, .int .i64 f2, .slice pa fp.length pc] 77 (0, 0)) :=
          hg.mod.row (((Mod.refl [] _).alloc _).row (heap_alloc_new w1 _) (by simp)) (fun hx => Nat.lt_irrefl _ (HF1.out.lt (by simpa using hx)))
        have hq1 := blk_cell hblk 1
        have hc0 := blk_cell hG2 0
        have hz0 := blk_free hG2 0
        have HF2 := Lib.hid hg.frs
        have HB2 := Lib.hid ((HB1.out.trans (hma.toBelow (Nat.le_trans hsz hsz1) (by simp))).trans hg.below)
        have hsz2 := hg.size
        have HG2 := Lib.hid hG2
        have HA2 := Lib.hid hA2
        have hne3 : ¬ w1.heap.size = w.heap.size + 1 := by have := (Array.getElem?_eq_some_iff.1 HG1.out).1; omega
        have hw1 : IntKind.i64.wrap ((at_ : Int) + (q : Int)) = at_ + q := IntWalk.i64_in _ (by omega)
        obtain ⟨a3, n3, c3, rfl⟩ := hg.frs.shape''
        clear hma hnt hm2 hG2 hA2 hblk hg hga hk1
        go_wp2_with fail
        go_roundw
        case rel =>
          have hmS : Mod [w.heap.size + 1] w2 (w2.setCell ⟨w.heap.size + 1, 0, none⟩ (.slice a3 n3 c3)) := (Mod.refl [w.heap.size + 1] w2).setCell (p := ⟨w.heap.size + 1, 0, none⟩) (Or.inl (by simp)) _
          have hT : ∀ x, x ∈ [w.heap.size + 1] → IsT 79 w2 x := by intro x hx; simp at hx; subst hx; exact ⟨_, HG2.out⟩
          refine ⟨k + 1, by rw [HStep.out.2]; go_num, ?_⟩
          rw [HStep.out.1, HRt.out]
          refine ⟨⟨.slice a3 n3 c3, vg, ?_, HF2.out.mod hmS (fun x hx => ⟨(hT x hx).ne (by decide), (hT x hx).ne (by decide)⟩), HPg2.out.mod hmS (fun x hx => (hT x hx).ne (by decide))⟩, hmS.row HA2.out (by simp), HB2.out.trans (hmS.toBelow hsz2 (by simp)), Nat.le_trans hsz2 hmS.size⟩
          have := blk_set HG2.out 0 (.slice a3 n3 c3)
          simpa using this
        case measure => simp [intOf]; omega
        -- Xtake]
      · -- [Xskip
        have HSk := Lib.hid (rgs_skip HC.out.1 hlt he)
        have HFs : Hid ((scK l (k + 1)).fs = (scK l k).fs ∧ (scK l (k + 1)).at_ = (scK l k).at_ + 1) := Lib.hid (by rw [scK_skip hlt he]; exact ⟨rfl, rfl⟩)
        have HOpen : Hid (∀ e w', AtP l (scK l k).at_ wr e w' → ∃ pa pc, e = .returned (.tuple #[.agg #[.int .i64 (atF l (scK l k).at_).at_, .int .i64 (atF l (scK l k).at_).len, .int .i64 (atF l (scK l k).at_).kind, .slice pa (atF l (scK l k).at_).pay.length pc], .int .i64 (atE l (scK l k).at_)]) ∧ Pay wr.heap.size w' pa (atF l (scK l k).at_).pay ∧ Below wr.heap.size wr w' ∧ (atF l (scK l k).at_).pay.length ≤ pc) := Lib.hid fun e w' h => h.open
        have hb : (atE l (scK l k).at_ == 0) = false := by simpa using he
        generalize hP : AtP l (scK l k).at_ wr = P at HAt HOpen
        clear hP he
        generalize atF l (scK l k).at_ = f at *
        generalize atE l (scK l k).at_ = er at *
        obtain ⟨f0, f1, f2, fp⟩ := f
        obtain ⟨rg2, hrg2e⟩ : ∃ x, x = rgs (scK l (k + 1)) := ⟨_, rfl⟩
        rw [← hrg2e] at HSk
        have HRg := Lib.hid hrg2e
        clear hrg2e
        generalize rgs (scK l k) = rg at *
        generalize (scK l k).at_ = at_ at *
        generalize (scK l k).fs = fs at *
        simp only at *
        rcases HSk.out with ⟨G, f, hrg, hfa, hrg2⟩ | ⟨hrg, hrg2⟩
        · subst hrg
          have HR2 := Lib.hid hrg2
          clear hrg2 HSk
          obtain ⟨gg, cg, hvg, hcg, hg0, hg1⟩ := HP.out.last
          subst hvg
          have hgk1 := blk_cell HG.out 1
          have hm : (G.length : Int) ≤ 1000001 := by simp only [List.length_append, List.length_cons, List.length_nil] at hgl; omega
          obtain ⟨m, hm0⟩ : ∃ m, G.length = m := ⟨_, rfl⟩
          rw [hm0] at hm hcg hg0 hg1 HG HP hgk1
          have HGm := Lib.hid hm0
          clear hm0
          have e1 : m * 2 = 2 * m := Nat.mul_comm _ _
          go_wp2_with (go_at_call 56; refine HAt.out.mono ?_; intro e w1 hx; obtain ⟨pa, pc, rfl, hp, hbl, hcp⟩ := HOpen.out _ _ hx; have HCp := Lib.hid hcp; clear hcp; have HM1 := Lib.hid ((Mod.ofBelow hbl).trans ((Mod.refl [] w1).alloc (.cells #[.int .i64 f0, .int .i64 f1, .int .i64 f2, .slice pa fp.length pc] 77))); have hG := HM1.out.row HG.out (by simp); have hk1 := blk_cell hG 1; have hg0' := HM1.out.cell hg0 (by simp); have hg1' := HM1.out.cell hg1 (by simp); clear hp hbl hx hG)
          have HMg := Lib.hid (HM1.out.alloc (.cells #[.int .i64 f, .int .i64 (at_ + 1)] 95))
          have hgb := heap_alloc_new (w1.alloc (.cells #[.int .i64 f0, .int .i64 f1, .int .i64 f2, .slice pa fp.length pc] 77)) (.cells #[.int .i64 f, .int .i64 (at_ + 1)] 95)
          have hs8 : (w1.alloc (.cells #[.int .i64 f0, .int .i64 f1, .int .i64 f2, .slice pa fp.length pc] 77)).heap.size = w1.heap.size + 1 := by simp
          rw [hs8] at hgb
          generalize (w1.alloc (.cells #[.int .i64 f0, .int .i64 f1, .int .i64 f2, .slice pa fp.length pc] 77)).alloc (.cells #[.int .i64 f, .int .i64 (at_ + 1)] 95) = w2 at *
          have hB2 : w.heap.size ≤ w2.heap.size := Nat.le_trans hsz HMg.out.size
          have HKeep : Hid (∀ W, Mod [] w2 W → Mod [] w2 W ∧ W.cell? ⟨w.heap.size + 1, 1, none⟩ = some (.slice (some ⟨gg, 0, none⟩) (m + 1) cg) ∧ W.cell? ⟨w1.heap.size + 1, 0, none⟩ = some (.int .i64 f) ∧ W.cell? ⟨w1.heap.size + 1, 1, none⟩ = some (.int .i64 (at_ + 1))) :=
            Lib.hid fun W h => ⟨h, (HMg.out.trans h).cell hgk1 (by simp), h.cell (blk_cell hgb 0) (by simp), h.cell (blk_cell hgb 1) (by simp)⟩
          generalize w1.heap.size + 1 = g8 at *
          have hwm : IntKind.i64.wrap (m : Int) = m := IntWalk.i64_in _ (by omega)
          have hm0 : (0 : Int) ≤ (m : Int) := by omega
          have hmc : (m : Int) ≤ (cg : Int) := by omega
          clear hk1 hg0' hg1' hgb hs8 HM1 hgk1 hg0 hg1
          -- REGION11
          refine region_J (S := (fun W => Mod [] w2 W ∧ W.cell? ⟨w.heap.size + 1, 1, none⟩ = some (.slice (some ⟨gg, 0, none⟩) (m + 1) cg) ∧ W.cell? ⟨g8, 0, none⟩ = some (.int .i64 f) ∧ W.cell? ⟨g8, 1, none⟩ = some (.int .i64 (at_ + 1)))) (k := 11) (by kernel_rfl) (HKeep.out _ (Mod.refl [] w2).drew) (fun hHeld => ?_)
          refine anyJ.take (i := 1) (oi := ?_) (v := ?_) ?_ (by kernel_rfl) (by kernel_rfl) (by kernel_rfl) (by kernel_rfl) ?_ (Or.inl ⟨?_, ?_⟩) hHeld ?_
          rotate_left 2
          · simp only [List.getElem?_toArray, List.getElem?_cons_succ, List.getElem?_cons_zero]; rfl
          · exact fun _ _ _ h => h
          · rfl
          · intro w hSw; (try dsimp only at hSw); go_simp; try (with_reducible rfl)
          try simp only [Act.put, List.setIfInBounds_toArray, List.set_cons_zero, List.set_cons_succ]
          refine anyJ.take (i := 2) (oi := ?_) (v := ?_) ?_ (by kernel_rfl) (by kernel_rfl) (by kernel_rfl) (by kernel_rfl) ?_ (Or.inl ⟨?_, ?_⟩) hHeld ?_
          rotate_left 2
          · simp only [List.getElem?_toArray, List.getElem?_cons_succ, List.getElem?_cons_zero]; rfl
          · exact fun _ _ _ h => h
          · rfl
          · intro w hSw; (try dsimp only at hSw); go_simp; try (with_reducible rfl)
          try simp only [Act.put, List.setIfInBounds_toArray, List.set_cons_zero, List.set_cons_succ]
          refine anyJ.take (i := 3) (oi := ?_) (v := ?_) ?_ (by kernel_rfl) (by kernel_rfl) (by kernel_rfl) (by kernel_rfl) ?_ (Or.inl ⟨?_, ?_⟩) hHeld ?_
          rotate_left 2
          · simp only [List.getElem?_toArray, List.getElem?_cons_succ, List.getElem?_cons_zero]; rfl
          · exact fun _ _ _ h => h
          · rfl
          · intro w hSw; (try dsimp only at hSw); go_simp; try (with_reducible rfl)
          try simp only [Act.put, List.setIfInBounds_toArray, List.set_cons_zero, List.set_cons_succ]
          refine anyJ.take (i := 4) (oi := ?_) (v := ?_) ?_ (by kernel_rfl) (by kernel_rfl) (by kernel_rfl) (by kernel_rfl) ?_ (Or.inl ⟨?_, ?_⟩) hHeld ?_
          rotate_left 2
          · simp only [List.getElem?_toArray, List.getElem?_cons_succ, List.getElem?_cons_zero]; rfl
          · exact fun _ _ _ h => h
          · rfl
          · intro w hSw; (try dsimp only at hSw); go_simp; try (with_reducible rfl)
          try simp only [Act.put, List.setIfInBounds_toArray, List.set_cons_zero, List.set_cons_succ]
          refine anyJ.take (i := 5) (oi := ?_) (v := ?_) ?_ (by kernel_rfl) (by kernel_rfl) (by kernel_rfl) (by kernel_rfl) ?_ (Or.inl ⟨?_, ?_⟩) hHeld ?_
          rotate_left 2
          · simp only [List.getElem?_toArray, List.getElem?_cons_succ, List.getElem?_cons_zero]; rfl
          · exact fun _ _ _ h => h
          · rfl
          · intro w hSw; (try dsimp only at hSw); go_simp; try (with_reducible rfl)
          try simp only [Act.put, List.setIfInBounds_toArray, List.set_cons_zero, List.set_cons_succ]
          refine anyJ.take (i := 7) (oi := ?_) (v := ?_) ?_ (by kernel_rfl) (by kernel_rfl) (by kernel_rfl) (by kernel_rfl) ?_ (Or.inl ⟨?_, ?_⟩) hHeld ?_
          rotate_left 2
          · simp only [List.getElem?_toArray, List.getElem?_cons_succ, List.getElem?_cons_zero]; rfl
          · exact fun _ _ _ h => h
          · rfl
          · intro w hSw; (try dsimp only at hSw); go_simp; try (with_reducible rfl)
          try simp only [Act.put, List.setIfInBounds_toArray, List.set_cons_zero, List.set_cons_succ]
          refine anyJ.ready (rs := [0, 8]) (by kernel_rfl) (by simp) ?_
          refine AllJ.cons (o := ?_) ?_ (fun K hK => ?_) ?_
          rotate_left
          · simp only [List.getElem?_toArray, List.getElem?_cons_succ, List.getElem?_cons_zero]; rfl
          · go_simp
            have HM_w3 : Hid (Mod [] w2 (w2.alloc (.cells #[] 95)).drew) := Lib.hid (((Mod.refl [] w2).alloc (.cells #[] 95)).drew)
            have hs_w3 : (w2.alloc (.cells #[] 95)).drew.heap.size = w2.heap.size + 1 := by simp
            have HS_w3 := Lib.hid hs_w3
            clear hs_w3
            have HL_0 : Hid (Gps w.heap.size (w2.alloc (.cells #[] 95)).drew (.slice (some ⟨w2.heap.size, 0, none⟩) 0 0) []) := Lib.hid ((Gps.lit w2 [] #[] (by simp [gpL]) 0 rfl hB2 (by simp [maxLen])).quiet (Mod.refl [] _).drew)
            generalize (w2.alloc (.cells #[] 95)).drew = w3 at *
            generalize hb0 : w2.heap.size = b0 at HL_0
            have HM_b : Hid (w2.heap.size ≤ b0) := Lib.hid (by omega)
            have HB0 : Hid (b0 < w3.heap.size) := Lib.hid (by rw [HS_w3.out, hb0]; omega)
            try rw [hb0]
            clear hb0
            refine hK.out _ _ (HKeep.out _ HM_w3.out) ?_
            clear hK K hHeld
            intro hHeld
            try simp only [Act.put, List.setIfInBounds_toArray, List.set_cons_zero, List.set_cons_succ]
            refine anyJ.ready (rs := [6, 8]) (by kernel_rfl) (by simp) ?_
            refine AllJ.cons (o := ?_) ?_ (fun K hK => ?_) ?_
            rotate_left
            · simp only [List.getElem?_toArray, List.getElem?_cons_succ, List.getElem?_cons_zero]; rfl
            · refine step_append_src w3 rfl _ _ 73 73 rfl w.heap.size 95 2 16 _ Tryd.underlying73 info_gap rfl (.slice (some ⟨b0, 0, none⟩) 0 0) 0 [] (by rfl) HL_0.out.own (.slice (some ⟨gg, 0, none⟩) m cg) m (gpL G) (by rfl) (Src.ofGps (HP.out.quiet (HMg.out.trans HM_w3.out)) Tryd.underlying73 m cg HGm.out.symm) (by unfold maxLen; omega) (by omega) (Nat.le_trans hB2 HM_w3.out.size) ?_
              intro v6 w6 ho hmo hbl
              have HM_w6 : Hid (Mod [] w2 w6) := Lib.hid (HM_w3.out.trans' hmo (by intro x hx; right; simp [Value.ownBlock] at hx; subst hx; have := HM_b.out; omega))
              have HL_6 : Hid (Gps w.heap.size w6 v6 G) := Lib.hid ⟨by rw [HGm.out]; simpa using ho⟩
              have HO_6 : Hid (∀ x, v6.ownBlock = some x → w2.heap.size ≤ x) := Lib.hid (by intro x hx; have h1 := HM_b.out; have h2 := HM_w3.out.size; rcases hbl with h | h <;> rw [h] at hx <;> simp [Value.ownBlock] at hx <;> omega)
              obtain ⟨a6, c6, rfl⟩ := HL_6.out.shape
              clear ho hmo hbl
              refine hK.out _ _ (HKeep.out _ HM_w6.out) ?_
              clear hK K hHeld
              intro hHeld
              try simp only [Act.put, List.setIfInBounds_toArray, List.set_cons_zero, List.set_cons_succ]
              refine anyJ.ready (rs := [8]) (by kernel_rfl) (by simp) ?_
              refine AllJ.cons (o := ?_) ?_ (fun K hK => ?_) ?_
              rotate_left
              · simp only [List.getElem?_toArray, List.getElem?_cons_succ, List.getElem?_cons_zero]; rfl
              · go_simp
                have HM_w8 : Hid (Mod [] w2 (w6.alloc (.cells #[.int .i64 f, .int .i64 (at_ + 1)] 95))) := Lib.hid ((HM_w6.out.alloc (.cells #[.int .i64 f, .int .i64 (at_ + 1)] 95)))
                have hs_w8 : (w6.alloc (.cells #[.int .i64 f, .int .i64 (at_ + 1)] 95)).heap.size = w6.heap.size + 1 := by simp
                have HS_w8 := Lib.hid hs_w8
                clear hs_w8
                have HL_8 : Hid (Gps w.heap.size (w6.alloc (.cells #[.int .i64 f, .int .i64 (at_ + 1)] 95)) (.slice (some ⟨w6.heap.size, 0, none⟩) 1 1) [(f, at_ + 1)]) := Lib.hid ((Gps.lit w6 [(f, at_ + 1)] #[.int .i64 f, .int .i64 (at_ + 1)] (by simp [gpL]) 1 rfl (Nat.le_trans hB2 HM_w6.out.size) (by simp [maxLen])))
                have HN_6 := Lib.hid (HL_6.out.quiet ((Mod.refl [] w6).alloc (.cells #[.int .i64 f, .int .i64 (at_ + 1)] 95)))
                clear HL_6
                have HL_6 := HN_6
                clear HN_6
                generalize (w6.alloc (.cells #[.int .i64 f, .int .i64 (at_ + 1)] 95)) = w8 at *
                generalize hb8 : w6.heap.size = b8 at HL_8
                try rw [hb8]
                clear hb8
                refine hK.out _ _ (HKeep.out _ HM_w8.out) ?_
                clear hK K hHeld
                intro hHeld
                try simp only [Act.put, List.setIfInBounds_toArray, List.set_cons_zero, List.set_cons_succ]
                refine anyJ.ready (rs := [9]) (by kernel_rfl) (by simp) ?_
                refine AllJ.cons (o := ?_) ?_ (fun K hK => ?_) ?_
                rotate_left
                · simp only [List.getElem?_toArray, List.getElem?_cons_succ, List.getElem?_cons_zero]; rfl
                · refine step_append_src w8 rfl _ _ 73 73 rfl w.heap.size 95 2 16 _ Tryd.underlying73 info_gap rfl (.slice a6 G.length c6) _ (gpL G) (by rfl) HL_6.out.own (.slice (some ⟨b8, 0, none⟩) 1 1) 1 (gpL [(f, at_ + 1)]) (by rfl) (Src.ofGps (r := []) HL_8.out Tryd.underlying73 1 1 rfl) (by rw [HGm.out]; unfold maxLen; omega) (by rw [HGm.out]; omega) (Nat.le_trans hB2 HM_w8.out.size) ?_
                  intro v9 w9 ho hmo hbl
                  have HM_w9 : Hid (Mod [] w2 w9) := Lib.hid (HM_w8.out.trans' hmo (by intro x hx; right; exact HO_6.out x (by simpa using hx)))
                  have HL_9 : Hid (Gps w.heap.size w9 v9 rg2) := Lib.hid (by rw [HR2.out]; exact ⟨by rw [gpL_append]; simpa using ho⟩)
                  have HO_9 : Hid (∀ x, v9.ownBlock = some x → IsT 95 w9 x) := Lib.hid (fun x hx => owns_isT HL_9.out.own hx)
                  have hrow := (HMg.out.trans HM_w9.out).row HG.out (by simp)
                  have HRow := Lib.hid hrow
                  have hz1 := blk_free hrow 1
                  clear hrow
                  obtain ⟨a9, n9, c9, rfl⟩ := HL_9.out.shape'
                  clear ho hmo hbl
                  refine hK.out _ _ (HKeep.out _ HM_w9.out) ?_
                  clear hK K hHeld
                  intro hHeld
                  try simp only [Act.put, List.setIfInBounds_toArray, List.set_cons_zero, List.set_cons_succ]
                  refine anyJ.take (i := 10) (oi := ?_) (v := ?_) ?_ (by kernel_rfl) (by kernel_rfl) (by kernel_rfl) (by kernel_rfl) ?_ (Or.inl ⟨?_, ?_⟩) hHeld ?_
                  rotate_left 2
                  · simp only [List.getElem?_toArray, List.getElem?_cons_succ, List.getElem?_cons_zero]; rfl
                  · exact fun _ _ _ h => h
                  · rfl
                  · intro w hSw; (try dsimp only at hSw); go_simp; try (with_reducible rfl)
                  try simp only [Act.put, List.setIfInBounds_toArray, List.set_cons_zero, List.set_cons_succ]
                  refine anyJ.ready (rs := [11]) (by kernel_rfl) (by simp) ?_
                  refine AllJ.last (o := ?_) ?_ (fun K hK => ?_)
                  rotate_left
                  · simp only [List.getElem?_toArray, List.getElem?_cons_succ, List.getElem?_cons_zero]; rfl
                  · have hcell := hHeld.2.1
                    clear hHeld
                    go_simp
                    refine hK.out _ _ ?_
                    clear hK K
                    try simp only [Act.put, List.setIfInBounds_toArray, List.set_cons_zero, List.set_cons_succ]
                    refine anyJ.done (by kernel_rfl) ?_ _
                    go_wp2_with fail
                    go_roundw
                    case rel =>
                      refine ⟨k + 1, by rw [HFs.out.2]; go_num, ?_⟩
                      rw [HFs.out.1, ← HRg.out]
                      exact fd_end HW.out.ans HW.out.below hsz HF.out HMg.out HM_w9.out HRow.out HL_9.out
                    case measure => simp [intOf]; omega
                exact AllJ.nil
              exact AllJ.nil
            refine AllJ.cons (o := ?_) ?_ (fun K hK => ?_) ?_
            rotate_left
            · simp only [List.getElem?_toArray, List.getElem?_cons_succ, List.getElem?_cons_zero]; rfl
            · go_simp
              have HM_w8 : Hid (Mod [] w2 (w3.alloc (.cells #[.int .i64 f, .int .i64 (at_ + 1)] 95))) := Lib.hid ((HM_w3.out.alloc (.cells #[.int .i64 f, .int .i64 (at_ + 1)] 95)))
              have hs_w8 : (w3.alloc (.cells #[.int .i64 f, .int .i64 (at_ + 1)] 95)).heap.size = w3.heap.size + 1 := by simp
              have HS_w8 := Lib.hid hs_w8
              clear hs_w8
              have HL_8 : Hid (Gps w.heap.size (w3.alloc (.cells #[.int .i64 f, .int .i64 (at_ + 1)] 95)) (.slice (some ⟨w3.heap.size, 0, none⟩) 1 1) [(f, at_ + 1)]) := Lib.hid ((Gps.lit w3 [(f, at_ + 1)] #[.int .i64 f, .int .i64 (at_ + 1)] (by simp [gpL]) 1 rfl (Nat.le_trans hB2 HM_w3.out.size) (by simp [maxLen])))
              have HN_0 := Lib.hid (HL_0.out.quiet ((Mod.refl [] w3).alloc (.cells #[.int .i64 f, .int .i64 (at_ + 1)] 95)))
              clear HL_0
              have HL_0 := HN_0
              clear HN_0
              generalize (w3.alloc (.cells #[.int .i64 f, .int .i64 (at_ + 1)] 95)) = w8 at *
              generalize hb8 : w3.heap.size = b8 at HL_8
              try rw [hb8]
              have HNe : Hid (b8 ≠ b0) := Lib.hid (by have := HB0.out; omega)
              clear hb8
              refine hK.out _ _ (HKeep.out _ HM_w8.out) ?_
              clear hK K hHeld
              intro hHeld
              try simp only [Act.put, List.setIfInBounds_toArray, List.set_cons_zero, List.set_cons_succ]
              refine anyJ.ready (rs := [6]) (by kernel_rfl) (by simp) ?_
              refine AllJ.cons (o := ?_) ?_ (fun K hK => ?_) ?_
              rotate_left
              · simp only [List.getElem?_toArray, List.getElem?_cons_succ, List.getElem?_cons_zero]; rfl
              · refine step_append_src w8 rfl _ _ 73 73 rfl w.heap.size 95 2 16 _ Tryd.underlying73 info_gap rfl (.slice (some ⟨b0, 0, none⟩) 0 0) 0 [] (by rfl) HL_0.out.own (.slice (some ⟨gg, 0, none⟩) m cg) m (gpL G) (by rfl) (Src.ofGps (HP.out.quiet (HMg.out.trans HM_w8.out)) Tryd.underlying73 m cg HGm.out.symm) (by unfold maxLen; omega) (by omega) (Nat.le_trans hB2 HM_w8.out.size) ?_
                intro v6 w6 ho hmo hbl
                have HM_w6 : Hid (Mod [] w2 w6) := Lib.hid (HM_w8.out.trans' hmo (by intro x hx; right; simp [Value.ownBlock] at hx; subst hx; have := HM_b.out; omega))
                have HL_6 : Hid (Gps w.heap.size w6 v6 G) := Lib.hid ⟨by rw [HGm.out]; simpa using ho⟩
                have HO_6 : Hid (∀ x, v6.ownBlock = some x → w2.heap.size ≤ x) := Lib.hid (by intro x hx; have h1 := HM_b.out; have h2 := HM_w8.out.size; rcases hbl with h | h <;> rw [h] at hx <;> simp [Value.ownBlock] at hx <;> omega)
                have HN_8 : Hid (Gps w.heap.size w6 (.slice (some ⟨b8, 0, none⟩) 1 1) [(f, at_ + 1)]) := Lib.hid ⟨hmo.owns HL_8.out.own (by intro x hx hx2; simp [Value.ownBlock] at hx hx2; subst hx; exact HNe.out hx2)⟩
                clear HL_8
                have HL_8 := HN_8
                clear HN_8
                obtain ⟨a6, c6, rfl⟩ := HL_6.out.shape
                clear ho hmo hbl
                refine hK.out _ _ (HKeep.out _ HM_w6.out) ?_
                clear hK K hHeld
                intro hHeld
                try simp only [Act.put, List.setIfInBounds_toArray, List.set_cons_zero, List.set_cons_succ]
                refine anyJ.ready (rs := [9]) (by kernel_rfl) (by simp) ?_
                refine AllJ.cons (o := ?_) ?_ (fun K hK => ?_) ?_
                rotate_left
                · simp only [List.getElem?_toArray, List.getElem?_cons_succ, List.getElem?_cons_zero]; rfl
                · refine step_append_src w6 rfl _ _ 73 73 rfl w.heap.size 95 2 16 _ Tryd.underlying73 info_gap rfl (.slice a6 G.length c6) _ (gpL G) (by rfl) HL_6.out.own (.slice (some ⟨b8, 0, none⟩) 1 1) 1 (gpL [(f, at_ + 1)]) (by rfl) (Src.ofGps (r := []) HL_8.out Tryd.underlying73 1 1 rfl) (by rw [HGm.out]; unfold maxLen; omega) (by rw [HGm.out]; omega) (Nat.le_trans hB2 HM_w6.out.size) ?_
                  intro v9 w9 ho hmo hbl
                  have HM_w9 : Hid (Mod [] w2 w9) := Lib.hid (HM_w6.out.trans' hmo (by intro x hx; right; exact HO_6.out x (by simpa using hx)))
                  have HL_9 : Hid (Gps w.heap.size w9 v9 rg2) := Lib.hid (by rw [HR2.out]; exact ⟨by rw [gpL_append]; simpa using ho⟩)
                  have HO_9 : Hid (∀ x, v9.ownBlock = some x → IsT 95 w9 x) := Lib.hid (fun x hx => owns_isT HL_9.out.own hx)
                  have hrow := (HMg.out.trans HM_w9.out).row HG.out (by simp)
                  have HRow := Lib.hid hrow
                  have hz1 := blk_free hrow 1
                  clear hrow
                  obtain ⟨a9, n9, c9, rfl⟩ := HL_9.out.shape'
                  clear ho hmo hbl
                  refine hK.out _ _ (HKeep.out _ HM_w9.out) ?_
                  clear hK K hHeld
                  intro hHeld
                  try simp only [Act.put, List.setIfInBounds_toArray, List.set_cons_zero, List.set_cons_succ]
                  refine anyJ.take (i := 10) (oi := ?_) (v := ?_) ?_ (by kernel_rfl) (by kernel_rfl) (by kernel_rfl) (by kernel_rfl) ?_ (Or.inl ⟨?_, ?_⟩) hHeld ?_
                  rotate_left 2
                  · simp only [List.getElem?_toArray, List.getElem?_cons_succ, List.getElem?_cons_zero]; rfl
                  · exact fun _ _ _ h => h
                  · rfl
                  · intro w hSw; (try dsimp only at hSw); go_simp; try (with_reducible rfl)
                  try simp only [Act.put, List.setIfInBounds_toArray, List.set_cons_zero, List.set_cons_succ]
                  refine anyJ.ready (rs := [11]) (by kernel_rfl) (by simp) ?_
                  refine AllJ.last (o := ?_) ?_ (fun K hK => ?_)
                  rotate_left
                  · simp only [List.getElem?_toArray, List.getElem?_cons_succ, List.getElem?_cons_zero]; rfl
                  · have hcell := hHeld.2.1
                    clear hHeld
                    go_simp
                    refine hK.out _ _ ?_
                    clear hK K
                    try simp only [Act.put, List.setIfInBounds_toArray, List.set_cons_zero, List.set_cons_succ]
                    refine anyJ.done (by kernel_rfl) ?_ _
                    go_wp2_with fail
                    go_roundw
                    case rel =>
                      refine ⟨k + 1, by rw [HFs.out.2]; go_num, ?_⟩
                      rw [HFs.out.1, ← HRg.out]
                      exact fd_end HW.out.ans HW.out.below hsz HF.out HMg.out HM_w9.out HRow.out HL_9.out
                    case measure => simp [intOf]; omega
                exact AllJ.nil
              exact AllJ.nil
            exact AllJ.nil
          refine AllJ.cons (o := ?_) ?_ (fun K hK => ?_) ?_
          rotate_left
          · simp only [List.getElem?_toArray, List.getElem?_cons_succ, List.getElem?_cons_zero]; rfl
          · go_simp
            have HM_w8 : Hid (Mod [] w2 (w2.alloc (.cells #[.int .i64 f, .int .i64 (at_ + 1)] 95)).drew) := Lib.hid (((Mod.refl [] w2).alloc (.cells #[.int .i64 f, .int .i64 (at_ + 1)] 95)).drew)
            have hs_w8 : (w2.alloc (.cells #[.int .i64 f, .int .i64 (at_ + 1)] 95)).drew.heap.size = w2.heap.size + 1 := by simp
            have HS_w8 := Lib.hid hs_w8
            clear hs_w8
            have HL_8 : Hid (Gps w.heap.size (w2.alloc (.cells #[.int .i64 f, .int .i64 (at_ + 1)] 95)).drew (.slice (some ⟨w2.heap.size, 0, none⟩) 1 1) [(f, at_ + 1)]) := Lib.hid ((Gps.lit w2 [(f, at_ + 1)] #[.int .i64 f, .int .i64 (at_ + 1)] (by simp [gpL]) 1 rfl hB2 (by simp [maxLen])).quiet (Mod.refl [] _).drew)
            generalize (w2.alloc (.cells #[.int .i64 f, .int .i64 (at_ + 1)] 95)).drew = w8 at *
            generalize hb8 : w2.heap.size = b8 at HL_8
            have HB8 : Hid (b8 < w8.heap.size) := Lib.hid (by rw [HS_w8.out, hb8]; omega)
            try rw [hb8]
            clear hb8
            refine hK.out _ _ (HKeep.out _ HM_w8.out) ?_
            clear hK K hHeld
            intro hHeld
            try simp only [Act.put, List.setIfInBounds_toArray, List.set_cons_zero, List.set_cons_succ]
            refine anyJ.ready (rs := [0]) (by kernel_rfl) (by simp) ?_
            refine AllJ.cons (o := ?_) ?_ (fun K hK => ?_) ?_
            rotate_left
            · simp only [List.getElem?_toArray, List.getElem?_cons_succ, List.getElem?_cons_zero]; rfl
            · go_simp
              have HM_w3 : Hid (Mod [] w2 (w8.alloc (.cells #[] 95))) := Lib.hid ((HM_w8.out.alloc (.cells #[] 95)))
              have hs_w3 : (w8.alloc (.cells #[] 95)).heap.size = w8.heap.size + 1 := by simp
              have HS_w3 := Lib.hid hs_w3
              clear hs_w3
              have HL_0 : Hid (Gps w.heap.size (w8.alloc (.cells #[] 95)) (.slice (some ⟨w8.heap.size, 0, none⟩) 0 0) []) := Lib.hid ((Gps.lit w8 [] #[] (by simp [gpL]) 0 rfl (Nat.le_trans hB2 HM_w8.out.size) (by simp [maxLen])))
              have HN_8 := Lib.hid (HL_8.out.quiet ((Mod.refl [] w8).alloc (.cells #[] 95)))
              clear HL_8
              have HL_8 := HN_8
              clear HN_8
              generalize (w8.alloc (.cells #[] 95)) = w3 at *
              generalize hb0 : w8.heap.size = b0 at HL_0
              have HM_b : Hid (w2.heap.size ≤ b0) := Lib.hid (by have := HM_w8.out.size; omega)
              have HNe : Hid (b8 ≠ b0) := Lib.hid (by have := HB8.out; omega)
              try rw [hb0]
              clear hb0
              refine hK.out _ _ (HKeep.out _ HM_w3.out) ?_
              clear hK K hHeld
              intro hHeld
              try simp only [Act.put, List.setIfInBounds_toArray, List.set_cons_zero, List.set_cons_succ]
              refine anyJ.ready (rs := [6]) (by kernel_rfl) (by simp) ?_
              refine AllJ.cons (o := ?_) ?_ (fun K hK => ?_) ?_
              rotate_left
              · simp only [List.getElem?_toArray, List.getElem?_cons_succ, List.getElem?_cons_zero]; rfl
              · refine step_append_src w3 rfl _ _ 73 73 rfl w.heap.size 95 2 16 _ Tryd.underlying73 info_gap rfl (.slice (some ⟨b0, 0, none⟩) 0 0) 0 [] (by rfl) HL_0.out.own (.slice (some ⟨gg, 0, none⟩) m cg) m (gpL G) (by rfl) (Src.ofGps (HP.out.quiet (HMg.out.trans HM_w3.out)) Tryd.underlying73 m cg HGm.out.symm) (by unfold maxLen; omega) (by omega) (Nat.le_trans hB2 HM_w3.out.size) ?_
                intro v6 w6 ho hmo hbl
                have HM_w6 : Hid (Mod [] w2 w6) := Lib.hid (HM_w3.out.trans' hmo (by intro x hx; right; simp [Value.ownBlock] at hx; subst hx; have := HM_b.out; omega))
                have HL_6 : Hid (Gps w.heap.size w6 v6 G) := Lib.hid ⟨by rw [HGm.out]; simpa using ho⟩
                have HO_6 : Hid (∀ x, v6.ownBlock = some x → w2.heap.size ≤ x) := Lib.hid (by intro x hx; have h1 := HM_b.out; have h2 := HM_w3.out.size; rcases hbl with h | h <;> rw [h] at hx <;> simp [Value.ownBlock] at hx <;> omega)
                have HN_8 : Hid (Gps w.heap.size w6 (.slice (some ⟨b8, 0, none⟩) 1 1) [(f, at_ + 1)]) := Lib.hid ⟨hmo.owns HL_8.out.own (by intro x hx hx2; simp [Value.ownBlock] at hx hx2; subst hx; exact HNe.out hx2)⟩
                clear HL_8
                have HL_8 := HN_8
                clear HN_8
                obtain ⟨a6, c6, rfl⟩ := HL_6.out.shape
                clear ho hmo hbl
                refine hK.out _ _ (HKeep.out _ HM_w6.out) ?_
                clear hK K hHeld
                intro hHeld
                try simp only [Act.put, List.setIfInBounds_toArray, List.set_cons_zero, List.set_cons_succ]
                refine anyJ.ready (rs := [9]) (by kernel_rfl) (by simp) ?_
                refine AllJ.cons (o := ?_) ?_ (fun K hK => ?_) ?_
                rotate_left
                · simp only [List.getElem?_toArray, List.getElem?_cons_succ, List.getElem?_cons_zero]; rfl
                · refine step_append_src w6 rfl _ _ 73 73 rfl w.heap.size 95 2 16 _ Tryd.underlying73 info_gap rfl (.slice a6 G.length c6) _ (gpL G) (by rfl) HL_6.out.own (.slice (some ⟨b8, 0, none⟩) 1 1) 1 (gpL [(f, at_ + 1)]) (by rfl) (Src.ofGps (r := []) HL_8.out Tryd.underlying73 1 1 rfl) (by rw [HGm.out]; unfold maxLen; omega) (by rw [HGm.out]; omega) (Nat.le_trans hB2 HM_w6.out.size) ?_
                  intro v9 w9 ho hmo hbl
                  have HM_w9 : Hid (Mod [] w2 w9) := Lib.hid (HM_w6.out.trans' hmo (by intro x hx; right; exact HO_6.out x (by simpa using hx)))
                  have HL_9 : Hid (Gps w.heap.size w9 v9 rg2) := Lib.hid (by rw [HR2.out]; exact ⟨by rw [gpL_append]; simpa using ho⟩)
                  have HO_9 : Hid (∀ x, v9.ownBlock = some x → IsT 95 w9 x) := Lib.hid (fun x hx => owns_isT HL_9.out.own hx)
                  have hrow := (HMg.out.trans HM_w9.out).row HG.out (by simp)
                  have HRow := Lib.hid hrow
                  have hz1 := blk_free hrow 1
                  clear hrow
                  obtain ⟨a9, n9, c9, rfl⟩ := HL_9.out.shape'
                  clear ho hmo hbl
                  refine hK.out _ _ (HKeep.out _ HM_w9.out) ?_
                  clear hK K hHeld
                  intro hHeld
                  try simp only [Act.put, List.setIfInBounds_toArray, List.set_cons_zero, List.set_cons_succ]
                  refine anyJ.take (i := 10) (oi := ?_) (v := ?_) ?_ (by kernel_rfl) (by kernel_rfl) (by kernel_rfl) (by kernel_rfl) ?_ (Or.inl ⟨?_, ?_⟩) hHeld ?_
                  rotate_left 2
                  · simp only [List.getElem?_toArray, List.getElem?_cons_succ, List.getElem?_cons_zero]; rfl
                  · exact fun _ _ _ h => h
                  · rfl
                  · intro w hSw; (try dsimp only at hSw); go_simp; try (with_reducible rfl)
                  try simp only [Act.put, List.setIfInBounds_toArray, List.set_cons_zero, List.set_cons_succ]
                  refine anyJ.ready (rs := [11]) (by kernel_rfl) (by simp) ?_
                  refine AllJ.last (o := ?_) ?_ (fun K hK => ?_)
                  rotate_left
                  · simp only [List.getElem?_toArray, List.getElem?_cons_succ, List.getElem?_cons_zero]; rfl
                  · have hcell := hHeld.2.1
                    clear hHeld
                    go_simp
                    refine hK.out _ _ ?_
                    clear hK K
                    try simp only [Act.put, List.setIfInBounds_toArray, List.set_cons_zero, List.set_cons_succ]
                    refine anyJ.done (by kernel_rfl) ?_ _
                    go_wp2_with fail
                    go_roundw
                    case rel =>
                      refine ⟨k + 1, by rw [HFs.out.2]; go_num, ?_⟩
                      rw [HFs.out.1, ← HRg.out]
                      exact fd_end HW.out.ans HW.out.below hsz HF.out HMg.out HM_w9.out HRow.out HL_9.out
                    case measure => simp [intOf]; omega
                exact AllJ.nil
              exact AllJ.nil
            exact AllJ.nil
          exact AllJ.nil
          -- END11
        · -- [Xnew
          have HR2 := Lib.hid hrg2
          clear hrg2 HSk
          have hgk1 := blk_cell HG.out 1
          have HApp : Hid (∀ w1 av2, Mod [] wr w1 → w1.heap[w.heap.size + 1]? = some (.cells #[.slice av fs.length cv, vg] 79 (0, 0)) → av2 = vg → ∀ v' w', Gps w.heap.size w' v' (rg ++ [(at_, at_ + 1)]) → Mod av2.ownBlock.toList w1 w' → w'.heap[w.heap.size + 1]? = some (.cells #[.slice av fs.length cv, vg] 79 (0, 0)) ∧ FdW w (w'.setCell ⟨w.heap.size + 1, 1, none⟩ v') fs rg2) := Lib.hid (by
            rintro w1 av2 hm1 hr1 rfl v' w' hg hm
            have hP1 := HP.out.quiet hm1
            have hnt : ∀ x, x ∈ av2.ownBlock.toList → IsT 95 w1 x := fun x hx => owns_isT hP1.own (by simpa using hx)
            have hr2 := hm.row hr1 (fun hx => (hnt _ hx).ne (by decide) ⟨_, hr1⟩)
            refine ⟨hr2, ?_⟩
            have hmS : Mod [w.heap.size + 1] w' (w'.setCell ⟨w.heap.size + 1, 1, none⟩ v') := (Mod.refl [w.heap.size + 1] w').setCell (p := ⟨w.heap.size + 1, 1, none⟩) (Or.inl (by simp)) _
            have hT : ∀ x, x ∈ [w.heap.size + 1] → IsT 79 w' x := by intro x hx; simp at hx; subst hx; exact ⟨_, hr2⟩
            have hs1 := Nat.le_trans hsz hm1.size
            have hA1 := hm1.row HW.out.ans (by simp)
            have hA2 := hm.row hA1 (fun hx => (hnt _ hx).ne (by decide) ⟨_, hA1⟩)
            have hF2 := (HF.out.quiet hm1).mod hm (fun x hx => ⟨(hnt x hx).ne (by decide), (hnt x hx).ne (by decide)⟩)
            have hB1 : Below w.heap.size w w' := (HW.out.below.trans (hm1.toBelow hsz (by simp))).trans (hm.toBelow hs1 (fun x hx => (hP1.own.lt x (by simpa using hx)).1))
            have hs2 := Nat.le_trans hs1 hm.size
            rw [HR2.out]
            refine ⟨⟨_, v', ?_, hF2.mod hmS (fun x hx => ⟨(hT x hx).ne (by decide), (hT x hx).ne (by decide)⟩), hg.mod hmS (fun x hx => (hT x hx).ne (by decide))⟩, hmS.row hA2 (by simp), hB1.trans (hmS.toBelow hs2 (by simp)), Nat.le_trans hs2 hmS.size⟩
            have := blk_set hr2 1 v'
            simpa using this)
          obtain ⟨ag, n, cg, rfl⟩ := HP.out.shape'
          have hcases : (n = 0) ∨ (∃ gg m t, ag = some ⟨gg, 0, none⟩ ∧ n = m + 1 ∧ wr.cell? ⟨gg, 2 * m + 1, none⟩ = some (.int .i64 t) ∧ ((t : Int) == (at_ : Int)) = false ∧ (m : Int) ≤ 1000001) := by
            rcases hrg with rfl | ⟨G, f, t, rfl, hne⟩
            · left
              obtain ⟨_, _, hv⟩ := HP.out.shape
              simp only [Value.slice.injEq] at hv
              exact hv.2.1
            · right
              obtain ⟨gg, cg', hv, _, _, h1⟩ := HP.out.last
              simp only [Value.slice.injEq] at hv
              obtain ⟨rfl, rfl, rfl⟩ := hv
              refine ⟨gg, G.length, t, rfl, rfl, h1, by simp; omega, ?_⟩
              simp only [List.length_append, List.length_cons, List.length_nil] at hgl
              omega
          have hgn : rg.length ≤ 1000000000 := by omega
          clear hrg
          rcases hcases with rfl | ⟨gg, m, t, rfl, rfl, hg1, hbt, hm⟩
          · go_wp2_with (first
              | (go_at_call 56; refine HAt.out.mono ?_; intro e w1 hx; obtain ⟨pa, pc, rfl, hp, hbl, hcp⟩ := HOpen.out _ _ hx; have HCp := Lib.hid hcp; clear hcp; have HM1 := Lib.hid ((Mod.ofBelow hbl).trans ((Mod.refl [] w1).alloc (.cells #[.int .i64 f0, .int .i64 f1, .int .i64 f2, .slice pa fp.length pc] 77))); have hG := HM1.out.row HG.out (by simp); have hk1 := blk_cell hG 1; clear hp hbl hx hG)
              | (at_builtin; refine wpList_appendG _ rfl _ _ 73 73 rfl Tryd.underlying73 info_gap w.heap.size (w1.alloc (.cells #[.int .i64 f0, .int .i64 f1, .int .i64 f2, .slice pa fp.length pc] 77)) _ rg rfl (HP.out.quiet HM1.out) at_ (at_ + 1) rfl (Nat.le_trans hsz HM1.out.size) (w1.heap.size + 1) (by simp) rfl Tryd.underlying73 hgn ?_))
            intro v2 w2 hg hm
            obtain ⟨hr, hfd⟩ := HApp.out _ _ (HM1.out.alloc _) (((Mod.refl [] _).alloc _).row (HM1.out.row HG.out (by simp)) (by simp)) rfl _ _ hg hm
            have HFd := Lib.hid hfd
            have hk2 := blk_cell hr 1
            have hz2 := blk_free hr 1
            obtain ⟨a2, n2, c2, rfl⟩ := hg.shape'
            clear hr hfd hg hm hk1 hgk1
            go_wp2_with fail
            go_roundw
            case rel => exact ⟨k + 1, by rw [HFs.out.2]; go_num, by rw [HFs.out.1, ← HRg.out]; exact HFd.out⟩
            case measure => simp [intOf]; omega
          · have e1 : m * 2 = 2 * m := Nat.mul_comm _ _
            go_wp2_with (first
              | (go_at_call 56; refine HAt.out.mono ?_; intro e w1 hx; obtain ⟨pa, pc, rfl, hp, hbl, hcp⟩ := HOpen.out _ _ hx; have HCp := Lib.hid hcp; clear hcp; have HM1 := Lib.hid ((Mod.ofBelow hbl).trans ((Mod.refl [] w1).alloc (.cells #[.int .i64 f0, .int .i64 f1, .int .i64 f2, .slice pa fp.length pc] 77))); have hG := HM1.out.row HG.out (by simp); have hk1 := blk_cell hG 1; have hg1' := HM1.out.cell hg1 (by simp); clear hp hbl hx hG)
              | (at_builtin; refine wpList_appendG _ rfl _ _ 73 73 rfl Tryd.underlying73 info_gap w.heap.size (w1.alloc (.cells #[.int .i64 f0, .int .i64 f1, .int .i64 f2, .slice pa fp.length pc] 77)) _ rg rfl (HP.out.quiet HM1.out) at_ (at_ + 1) rfl (Nat.le_trans hsz HM1.out.size) (w1.heap.size + 1) (by simp) rfl Tryd.underlying73 hgn ?_))
            intro v2 w2 hg hm
            obtain ⟨hr, hfd⟩ := HApp.out _ _ (HM1.out.alloc _) (((Mod.refl [] _).alloc _).row (HM1.out.row HG.out (by simp)) (by simp)) rfl _ _ hg hm
            have HFd := Lib.hid hfd
            have hk2 := blk_cell hr 1
            have hz2 := blk_free hr 1
            obtain ⟨a2, n2, c2, rfl⟩ := hg.shape'
            clear hr hfd hg hm hk1 hgk1
            go_wp2_with fail
            go_roundw
            case rel => exact ⟨k + 1, by rw [HFs.out.2]; go_num, by rw [HFs.out.1, ← HRg.out]; exact HFd.out⟩
            case measure => simp [intOf]; omega
          -- Xnew]
        -- Xskip]
    · -- [Xend
      have HEnd : Hid (ScEnd l k) := Lib.hid hlt
      have HRe := Lib.hid (rgs_end HC.out.1 HEnd.out)
      have hc0 := blk_cell HG.out 0
      have hc1 := blk_cell HG.out 1
      have ha0 := blk_cell HW.out.ans 0
      have ha1 := blk_cell HW.out.ans 1
      have hy0 := blk_free HW.out.ans 0
      have hy1 := blk_free HW.out.ans 1
      have HHl : Hid ((scK l k).fs = (scK l k).fs) := Lib.hid rfl
      generalize rgs (scK l k) = rg at *
      obtain ⟨ag, cg, rfl⟩ := HP.out.shape
      generalize hng : rg.length = ng at *
      clear hng
      go_wp2_with fail
      have hT : ∀ x, x ∈ [w.heap.size] → IsT 79 wr x := by intro x hx; simp at hx; subst hx; exact ⟨_, HW.out.ans⟩
      refine bodyPost_ret (v := .agg #[.slice av (scK l k).fs.length cv, .slice ag ng cg]) (res_found rfl _ _ w.heap.size _ #[.slice av (scK l k).fs.length cv, .slice ag ng cg] (0, 0) rfl (blk_store2 HW.out.ans rfl _ _) rfl) rfl ⟨k, _, _, HEnd.out, rfl, ?_, ?_, ?_⟩
      · exact HF.out.mod (mod_store2 _ _) (fun x hx => ⟨(hT x hx).ne (by decide), (hT x hx).ne (by decide)⟩)
      · rw [← HRe.out]; exact HP.out.mod (mod_store2 _ _) (fun x hx => (hT x hx).ne (by decide))
      · exact HW.out.below.trans ((mod_store2 _ _).toBelow hsz (by simp))
      -- Xend]
end Go.Proofs.YtondgejbmoiggaaDoor
