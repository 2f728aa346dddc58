/- The disk: a file in memory: written. -/
import Derived.Test.YtfcoaafmjllpfaaVfC
import Derived.Deep.RegionWith
namespace Go.Proofs.Ytfcoaafmjllpfaa
open Go.Shelf Go.ChangeShapes Go.WideShapes Go.ChangeAt Go.RowKit
set_option linter.unusedVariables false
set_option linter.unusedSimpArgs false

theorem FileAt.ne1 {w : World} {fb : Nat} {f : FileD} {vs vu vw : Value} {ws : List WrM} (h : FileAt w fb f vs vu vw ws) : fb ∉ vs.ownBlock.toList := by
  intro hg
  exact IsT.ne ⟨_, h.row⟩ (by decide) (owns_isT h.seen (by simpa using hg))
theorem FileAt.ne2 {w : World} {fb : Nat} {f : FileD} {vs vu vw : Value} {ws : List WrM} (h : FileAt w fb f vs vu vw ws) : fb ∉ vw.ownBlock.toList := by
  intro hg
  exact IsT.ne ⟨_, h.row⟩ (by decide) (owns_isT h.wr (by simpa using hg))
theorem blk4_1 {w : World} {g : Nat} {t : TypeId} {a b c d : Value} (h : w.heap[g]? = some (.cells #[a, b, c, d] t (0, 0))) (v : Value) : (w.setCell ⟨g, 1, none⟩ v).heap[g]? = some (.cells #[a, v, c, d] t (0, 0)) := blk_set h 1 v
theorem blk4_3 {w : World} {g : Nat} {t : TypeId} {a b c d : Value} (h : w.heap[g]? = some (.cells #[a, b, c, d] t (0, 0))) (v : Value) : (w.setCell ⟨g, 3, none⟩ v).heap[g]? = some (.cells #[a, b, c, v] t (0, 0)) := blk_set h 3 v
theorem mod_set (w : World) (s o : Nat) (x : Value) : Mod [s] w (w.setCell ⟨s, o, none⟩ x) := (Mod.refl [s] w).setCell (Or.inl (by simp)) _
theorem IsT.mod {F : List Nat} {t : TypeId} {w w' : World} {x : Nat} (h : IsT t w x) (hm : Mod F w w') (hx : x ∉ F) : IsT t w' x := by
  obtain ⟨c, hc⟩ := h
  exact ⟨c, hm.row hc hx⟩
theorem IsT.lt {t : TypeId} {w : World} {x : Nat} (h : IsT t w x) : x < w.heap.size := by
  obtain ⟨c, hc⟩ := h
  exact (Array.getElem?_eq_some_iff.1 hc).1
theorem wr_block {ws : List WrM} {g : Nat} (h : g ∈ wrReads ws) : ∃ m ∈ ws, g ∈ blocks m.a := by
  unfold wrReads at h
  exact List.mem_flatMap.1 h
/-- what is seen put anew -/
theorem FileAt.over {w w3 : World} {fb : Nat} {f : FileD} {vs vu vw : Value} {ws : List WrM} (h : FileAt w fb f vs vu vw ws) {l' : List Int} {v3 : Value} (ho : Over w 0 vs l' v3 w3) (hb : Bytes l') :
    FileAt (w3.setCell ⟨fb, 1, none⟩ v3) fb { f with seen := l' } v3 vu vw ws ∧ Mod (fFoot fb vs vu vw) w (w3.setCell ⟨fb, 1, none⟩ v3) ∧ ∀ g ∈ fAll fb v3 vu vw ws, g ∈ fAll fb vs vu vw ws ∨ w.heap.size ≤ g := by
  have hs : ∀ g, IsT 5 w g → g ≠ fb := fun g hg e => IsT.ne (e ▸ hg) (by decide) (⟨_, h.row⟩ : IsT 64 w fb)
  have hrow := ho.mod.row h.row h.ne1
  have nu : ∀ g, vu.ownBlock = some g → g ∉ vs.ownBlock.toList := fun g hg hg2 => h.ne g (by simpa using hg2) hg
  have nw : ∀ g, vw.ownBlock = some g → g ∉ vs.ownBlock.toList := fun g hg hg2 => IsT.ne (owns_isT h.wr hg) (by decide) (owns_isT h.seen (by simpa using hg2))
  have nm : ∀ m ∈ ws, ∀ g ∈ blocks m.a, g ∉ vs.ownBlock.toList := fun m hm g hg hg2 => (h.nx m hm g hg).1 (by simpa using hg2)
  have nv3 : ∀ g, v3.ownBlock = some g → g ≠ fb := fun g hg e => IsT.ne (owns_isT ho.own hg) (by decide) (e ▸ (⟨_, hrow⟩ : IsT 64 w3 fb))
  have nu2 : ∀ g, vu.ownBlock = some g → g ≠ fb := fun g hg => hs g (owns_isT h.sure hg)
  have nw2 : ∀ g, vw.ownBlock = some g → g ≠ fb := fun g hg e => IsT.ne (owns_isT h.wr hg) (by decide) (e ▸ (⟨_, h.row⟩ : IsT 64 w fb))
  have hnew : ∀ g, v3.ownBlock = some g → vs.ownBlock = some g ∨ w.heap.size ≤ g := fun g hg => by
    rcases ho.blk with hk | ⟨k, hk, hk2⟩
    · left; rw [← hk]; exact hg
    · right; rw [hk] at hg; simp at hg; omega
  have hms := mod_set w3 fb 1 v3
  refine ⟨⟨blk4_1 hrow v3, hms.owns ho.own (fun g hg => by simpa using nv3 g hg), hms.owns (ho.mod.owns h.sure nu) (fun g hg => by simpa using nu2 g hg), hms.owns (ho.mod.owns h.wr nw) (fun g hg => by simpa using nw2 g hg), h.eq, fun m hm => ⟨((h.wx m hm).1.mod ho.mod ?_).mod hms ?_, (h.wx m hm).2⟩, fun m hm g hg => ((h.wt m hm g hg).mod ho.mod (nm m hm g hg)).mod hms ?_, hb, h.bu, ?_, ?_⟩, ?_, ?_⟩
  · intro x hx
    exact nm m hm _ (by rw [hx]; simp [blocks])
  · intro x hx
    simpa using hs _ (h.wt m hm _ (by rw [hx]; simp [blocks]))
  · simpa using hs g (h.wt m hm g hg)
  · intro g hg hg2
    rcases hnew g hg with h1 | h1
    · exact h.ne g h1 hg2
    · have := (owns_lt h.sure hg2).2; omega
  · intro m hm g hg
    refine ⟨fun hg2 => ?_, (h.nx m hm g hg).2⟩
    rcases hnew g hg2 with h1 | h1
    · exact (h.nx m hm g hg).1 h1
    · have := (h.wt m hm g hg).lt; omega
  · refine (ho.mod.mono (fun x hx => .inl ?_)).trans (hms.mono (fun x hx => .inl ?_))
    · simp only [fFoot, List.mem_cons, List.mem_append]; right; left; exact hx
    · simp only [List.mem_singleton] at hx; subst hx; simp [fFoot]
  · intro g hg
    simp only [fAll, fFoot, List.mem_cons, List.mem_append, Option.mem_toList] at hg ⊢
    rcases hg with (h1 | h1 | h1 | h1) | h1
    · exact .inl (.inl (.inl h1))
    · rcases hnew g (by simpa using h1) with h2 | h2
      · exact .inl (.inl (.inr (.inl (by simpa using h2))))
      · exact .inr h2
    · exact .inl (.inl (.inr (.inr (.inl h1))))
    · exact .inl (.inl (.inr (.inr (.inr h1))))
    · exact .inl (.inr h1)
theorem wrCells_app (ws vs : List WrM) : wrCells (ws ++ vs) = wrCells ws ++ wrCells vs := by simp [wrCells]
theorem wrReads_app (ws vs : List WrM) : wrReads (ws ++ vs) = wrReads ws ++ wrReads vs := by simp [wrReads]
theorem wrReads_one (m : WrM) : wrReads [m] = blocks m.a := by simp [wrReads]
/-- a write more -/
theorem FileAt.more {w w3 : World} {fb : Nat} {f : FileD} {vs vu vw : Value} {ws : List WrM} (h : FileAt w fb f vs vu vw ws) {m : WrM} {v3 : Value} (ho : w3.ownsRow 0 94 2 v3 (ws ++ [m]).length (wrCells (ws ++ [m]))) (hm3 : Mod vw.ownBlock.toList w w3)
    (hblk : v3.ownBlock = vw.ownBlock ∨ v3.ownBlock = some w.heap.size) (hx : Cells8 w m.a m.x ∧ m.x.length ≤ m.c) (ht : ∀ g ∈ blocks m.a, IsT 5 w g) (hd : ∀ g ∈ blocks m.a, vs.ownBlock ≠ some g ∧ vu.ownBlock ≠ some g) :
    FileAt (w3.setCell ⟨fb, 3, none⟩ v3) fb { f with writes := f.writes ++ [(m.k, m.x)] } vs vu v3 (ws ++ [m]) ∧ Mod (fFoot fb vs vu vw) w (w3.setCell ⟨fb, 3, none⟩ v3) ∧ ∀ g ∈ fAll fb vs vu v3 (ws ++ [m]), g ∈ fAll fb vs vu vw ws ∨ g ∈ blocks m.a ∨ w.heap.size ≤ g := by
  have hrow := hm3.row h.row h.ne2
  have nt : ∀ g, IsT 5 w g → g ∉ vw.ownBlock.toList := fun g hg hg2 => IsT.ne hg (by decide) (owns_isT h.wr (by simpa using hg2))
  have nf : ∀ g, IsT 5 w g → g ≠ fb := fun g hg e => IsT.ne (e ▸ hg) (by decide) (⟨_, h.row⟩ : IsT 64 w fb)
  have nv3 : ∀ g, v3.ownBlock = some g → g ≠ fb := fun g hg e => IsT.ne (owns_isT ho hg) (by decide) (e ▸ (⟨_, hrow⟩ : IsT 64 w3 fb))
  have hnew : ∀ g, v3.ownBlock = some g → vw.ownBlock = some g ∨ w.heap.size ≤ g := fun g hg => by
    rcases hblk with hk | hk
    · left; rw [← hk]; exact hg
    · right; rw [hk] at hg; simp at hg; omega
  have hms := mod_set w3 fb 3 v3
  have hall : ∀ k ∈ ws ++ [m], (Cells8 w k.a k.x ∧ k.x.length ≤ k.c) ∧ (∀ g ∈ blocks k.a, IsT 5 w g) ∧ ∀ g ∈ blocks k.a, vs.ownBlock ≠ some g ∧ vu.ownBlock ≠ some g := by
    intro k hk
    rcases List.mem_append.1 hk with hk | hk
    · exact ⟨h.wx k hk, h.wt k hk, h.nx k hk⟩
    · simp only [List.mem_singleton] at hk
      subst hk
      exact ⟨hx, ht, hd⟩
  refine ⟨⟨blk4_3 hrow v3, hms.owns (hm3.owns h.seen (fun g hg => nt g (owns_isT h.seen hg))) (fun g hg => by simpa using nf g (owns_isT h.seen hg)), hms.owns (hm3.owns h.sure (fun g hg => nt g (owns_isT h.sure hg))) (fun g hg => by simpa using nf g (owns_isT h.sure hg)),
    hms.owns ho (fun g hg => by simpa using nv3 g hg), by simp [h.eq], fun k hk => ⟨((hall k hk).1.1.mod hm3 ?_).mod hms ?_, (hall k hk).1.2⟩, fun k hk g hg => (((hall k hk).2.1 g hg).mod hm3 (nt g ((hall k hk).2.1 g hg))).mod hms (by simpa using nf g ((hall k hk).2.1 g hg)), h.bs, h.bu, h.ne, fun k hk => (hall k hk).2.2⟩, ?_, ?_⟩
  · intro x hx'
    exact nt _ ((hall k hk).2.1 _ (by rw [hx']; simp [blocks]))
  · intro x hx'
    simpa using nf _ ((hall k hk).2.1 _ (by rw [hx']; simp [blocks]))
  · refine (hm3.mono (fun x hx => .inl ?_)).trans (hms.mono (fun x hx => .inl ?_))
    · simp only [fFoot, List.mem_cons, List.mem_append]; right; right; right; exact hx
    · simp only [List.mem_singleton] at hx; subst hx; simp [fFoot]
  · intro g hg
    rw [fAll, wrReads_app, wrReads_one] at hg
    simp only [fAll, fFoot, List.mem_cons, List.mem_append, Option.mem_toList] at hg ⊢
    rcases hg with (h1 | h1 | h1 | h1) | h1 | h1
    · exact .inl (.inl (.inl h1))
    · exact .inl (.inl (.inr (.inl h1)))
    · exact .inl (.inl (.inr (.inr (.inl h1))))
    · rcases hnew g (by simpa using h1) with h2 | h2
      · exact .inl (.inl (.inr (.inr (.inr (by simpa using h2)))))
      · exact .inr (.inr h2)
    · exact .inl (.inr h1)
    · exact .inr (.inl h1)
theorem FileAt.lt {w : World} {fb : Nat} {f : FileD} {vs vu vw : Value} {ws : List WrM} (h : FileAt w fb f vs vu vw ws) : ∀ g ∈ fAll fb vs vu vw ws, g < w.heap.size := by
  intro g hg
  simp only [fAll, fFoot, List.mem_cons, List.mem_append, Option.mem_toList] at hg
  rcases hg with (h1 | h1 | h1 | h1) | h1
  · subst h1; exact blk_lt h.row
  · exact (owns_lt h.seen (by simpa using h1)).2
  · exact (owns_lt h.sure (by simpa using h1)).2
  · exact (owns_lt h.wr (by simpa using h1)).2
  · obtain ⟨m, hm, hg⟩ := wr_block h1
    exact (h.wt m hm g hg).lt
theorem foot_all {fb : Nat} {vs vu vw : Value} {ws : List WrM} {g : Nat} (h : g ∈ fFoot fb vs vu vw) : g ∈ fAll fb vs vu vw ws := List.mem_append.2 (.inl h)
theorem foot_new {w : World} {fb : Nat} {vs vu vw v3 : Value} (hb : v3.ownBlock = vs.ownBlock ∨ ∃ g, v3.ownBlock = some g ∧ w.heap.size ≤ g) {g : Nat} (h : g ∈ fFoot fb v3 vu vw) : g ∈ fFoot fb vs vu vw ∨ w.heap.size ≤ g := by
  rcases hb with hb | ⟨k, hb, hk⟩
  · left; simpa [fFoot, hb] using h
  · simp only [fFoot, List.mem_cons, List.mem_append, Option.mem_toList, hb, Option.some.injEq] at h ⊢
    rcases h with h | h | h | h
    · exact .inl (.inl h)
    · right; have h' : k = g := by simpa using h
      omega
    · exact .inl (.inr (.inr (.inl h)))
    · exact .inl (.inr (.inr (.inr h)))
theorem step_appendW (w : World) {ops : Array Oper} {o : Oper} {a : Act} {K : Act → World → Prop} {Q : Exit → Act → World → Prop} {E : Prop} (hgd : o.guard = none) (s x : Operand)
    (ho : o.op = .call { callee := .builtin .append, args := #[s, x], argTypes := #[62, 62] }) (v : Value) (ws : List WrM) (hs : a.eval s = v) (hown : w.ownsRow 0 94 2 v ws.length (wrCells ws))
    (g : Nat) (m : WrM) (hx : a.eval x = .slice (some ⟨g, 0, none⟩) 1 1) (hg : w.heap[g]? = some (.cells #[.int .i64 m.k, .slice m.a m.x.length m.c] 94 (0, 0))) (hl : ws.length ≤ 1000000000)
    (h : ∀ v' w', w'.ownsRow 0 94 2 v' (ws ++ [m]).length (wrCells (ws ++ [m])) → Mod v.ownBlock.toList w w' → (v'.ownBlock = v.ownBlock ∨ v'.ownBlock = some w.heap.size) → K (a.put o.dst v') w') : if Region.wanted o (yielded ops a.tmps) = true then Oper.wp Try.prog o a w K Q else E := by
  have hw : Region.wanted o (yielded ops a.tmps) = true := by simp [Region.wanted, hgd]
  rw [if_pos hw]
  obtain ⟨i, hi1, hi2, hi3, hi4⟩ := info_parts winfo
  have hsrc : Src Try.prog 2 62 (.slice (some ⟨g, 0, none⟩) 1 1) 1 (wrCells [m]) w := by
    refine Src.ofSlice w Try.underlying62 _ 1 1 _ (by simp [wrCells]) ?_ (by simp [wrCells, Value.oneCell'])
    intro j u hj
    rw [Addr.add_lit, blk_cell hg]
    simpa [wrCells] using hj
  obtain ⟨v', w', hr, h1, h2, h3⟩ := run_append_src (P := Try.prog) w 0 62 62 o.type 94 i _ 2 32 Try.underlying62 hi1 hi2 hi3 hi4 rfl v _ _ hown _ _ _ hsrc (by simp only [maxLen]; omega) (by omega) (Nat.zero_le _)
  unfold Oper.wp execOp
  simp only [ho, resolve, invoke, builtin, Sem.run_bind, Sem.run_pure, Result.andThen_ok, List.map_toArray, List.map_cons, List.map_nil, hs, hx, hr]
  refine h v' w' ?_ (Mod.ofGrown h2) h3
  rw [wrCells_app, List.length_append]
  exact h1
-- [WALK
/-- what a file's write leaves -/
structure Wrote (w : World) (fb : Nat) (f' : FileD) (vs vu vw : Value) (ws : List WrM) (w' : World) : Prop where
  ex : ∃ vs' vw' m, FileAt w' fb f' vs' vu vw' (ws ++ [m]) ∧ ∀ g ∈ fAll fb vs' vu vw' (ws ++ [m]), g ∈ fAll fb vs vu vw ws ∨ w.heap.size ≤ g
  mod : Mod (fFoot fb vs vu vw) w w'
set_option maxHeartbeats 4000000 in
theorem fwrite_any (w : World) (fb : Nat) (f : FileD) (vs vu vw : Value) (ws : List WrM) (h : FileAt w fb f vs vu vw ws) (k : Nat) (ba : Option Addr) (bn bc : Nat) (x : List Int) (hx : Cells8 w ba x) (hbn : bn = x.length)
    (hk : k ≤ 1000000000) (hxl : x.length ≤ 1000000000) (hll : f.seen.length ≤ 1000000000) (hwl : ws.length ≤ 1000000000) :
    Calls Try.prog 56 #[.pointer (some ⟨fb, 0, none⟩), .int .i64 k, .slice ba bn bc] w fun e w' => e = .returned (.tuple #[]) ∧ Wrote w fb (f.write k x) vs vu vw ws w' := by
  subst hbn
  have HC := Lib.hid (clone_any w ba x.length bc x hx rfl hxl)
  unfold CloneP at HC
  have HF := Lib.hid h
  have HX := Lib.hid hx
  have HBD := Lib.hid (And.intro hk (And.intro hxl (And.intro hll hwl)))
  obtain ⟨asn, csn, hvs, -, -⟩ := owns_shape h.seen
  obtain ⟨awr, cwr, hvw, -, -⟩ := owns_shape h.wr
  subst hvs
  subst hvw
  clear h hx hk hxl hll hwl
  go_enter Try.func56, Try.ntmps56
  go_wp2_with fail
  refine HC.out.mono ?_
  rintro e w1 ⟨v1, rfl, ho1, hb1⟩
  obtain ⟨a1, c1, rfl, -, hc1⟩ := owns_shape ho1
  have HO1 := Lib.hid ho1
  have HM1 := Lib.hid (Mod.ofBelow hb1)
  have HF1 := Lib.hid (HF.out.quiet (Mod.ofBelow hb1))
  have HG0 := Lib.hid (heap_alloc_new w1 (.cells #[.int .i64 k, .slice a1 x.length c1] 94))
  have HM0 := Lib.hid ((Mod.refl [] w1).alloc (.cells #[.int .i64 k, .slice a1 x.length c1] 94))
  have HF2 := Lib.hid (HF1.out.quiet HM0.out)
  have HO2 := Lib.hid (HM0.out.owns HO1.out (by simp))
  have k1 := blk_cell HF2.out.row 1
  clear ho1 hb1
  have hc1' : x.length ≤ c1 := by
    rcases HO1.out.2 with ⟨hh, hz⟩ | ⟨_, _, _, hh, _, _, hc, _⟩
    · omega
    · simp only [Value.slice.injEq] at hh; omega
  have HC1 := Lib.hid hc1'
  clear hc1 hc1'
  have hblk : ∀ g, (Value.slice asn f.seen.length csn).ownBlock = some g → g ∉ blocks a1 := by
    intro g hg hg1
    have h1 := (owns_lt HF.out.seen hg).2
    cases a1 with
    | none => simp [blocks] at hg1
    | some y =>
      simp only [blocks, List.mem_singleton] at hg1
      have h2 := (owns_lt HO1.out (k := y.block) rfl).1
      omega
  have HOv := Lib.hid (fun W (hf : FileAt W fb f (.slice asn f.seen.length csn) vu (.slice awr ws.length cwr) ws) (hc : Cells8 W a1 x) => over_all W k a1 x.length c1 0 x hc rfl HC1.out (.slice asn f.seen.length csn) f.seen hf.bs hf.seen HBD.out.1 HBD.out.2.1 HBD.out.2.2.1 (Nat.zero_le _) hblk x.length (Nat.le_refl _))
  rw [List.take_length] at HOv
  clear hblk
  go_wp2_with fail
  have HX2 := Lib.hid (Cells8.ofOwns HX.out.1 HO2.out)
  generalize hW : w1.alloc (.cells #[.int .i64 k, .slice a1 x.length c1] 94) = W at *
  have j0 := blk_cell HG0.out 0
  have j1 := blk_cell HG0.out 1
  go_region_with (first
    | (go_at_call 57; refine (HOv.out _ (HF2.out.quiet ((Mod.refl [] _).drew)) (HX2.out.mod ((Mod.refl [] _).drew) (by simp))).mono ?_; rintro e w3 ⟨v3, rfl, hov⟩; have hrow3 := hov.mod.row (HF2.out.quiet ((Mod.refl [] _).drew)).row HF2.out.ne1; obtain ⟨a3, c3, rfl, -, -⟩ := owns_shape hov.own; have k3 := blk_cell hrow3 1; have z3 := blk_free hrow3 1; have HOV := Lib.hid hov; have HR3 := Lib.hid hrow3; clear hov hrow3))
  all_goals
    have hHF := HF2.out.quiet ((Mod.refl [] W).drew)
    obtain ⟨hF4, hM4, hA4⟩ := hHF.over HOV.out (overL_bytes HF.out.bs HX.out.1)
    have hs1 := HM1.out.size
    have hs0 := HM0.out.size
    have hltw : ∀ g ∈ fFoot fb (.slice asn f.seen.length csn) vu (.slice awr ws.length cwr), g < w.heap.size := fun g hg => HF.out.lt g (foot_all hg)
    have hG4 := hM4.row (blk_drew HG0.out) (fun hg => by have := hltw _ hg; omega)
    have hbl : ∀ g ∈ blocks a1, w.heap.size ≤ g ∧ IsT 5 W.drew g ∧ g < W.heap.size := by
      intro g hg
      cases a1 with
      | none => simp [blocks] at hg
      | some y =>
        simp only [blocks, List.mem_singleton] at hg
        subst hg
        exact ⟨(owns_lt HO2.out (k := y.block) rfl).1, owns_isT HO2.out (k := y.block) rfl, (owns_lt HO2.out (k := y.block) rfl).2⟩
    have hnb : ∀ g ∈ blocks a1, g ∉ fFoot fb (.slice asn f.seen.length csn) vu (.slice awr ws.length cwr) := fun g hg hg2 => by
      have h1 := hltw g hg2
      have h2 := (hbl g hg).1
      omega
    have hX4 := (HX2.out.mod ((Mod.refl [] W).drew) (by simp)).mod hM4 (fun y hy => hnb _ (by rw [hy]; simp [blocks]))
    have hT4 : ∀ g ∈ blocks a1, IsT 5 (w3.setCell ⟨fb, 1, none⟩ (.slice a3 (overL f.seen k x).length c3)) g := fun g hg => (hbl g hg).2.1.mod hM4 (hnb g hg)
    have hD4 : ∀ g ∈ blocks a1, (Value.slice a3 (overL f.seen k x).length c3).ownBlock ≠ some g ∧ vu.ownBlock ≠ some g := by
      intro g hg
      have h1 := hbl g hg
      refine ⟨fun h2 => ?_, fun h2 => ?_⟩
      · rcases HOV.out.blk with hk | ⟨e, hk, hk2⟩
        · rw [hk] at h2
          have := (owns_lt HF.out.seen h2).2; omega
        · rw [hk] at h2
          simp only [Option.some.injEq] at h2
          have hk3 : W.heap.size ≤ e := hk2
          omega
      · have := (owns_lt HF.out.sure h2).2; omega
    have hB4 := HOV.out.blk
    have hM3 : Mod (fFoot fb (.slice asn f.seen.length csn) vu (.slice awr ws.length cwr)) w (w3.setCell ⟨fb, 1, none⟩ (.slice a3 (overL f.seen k x).length c3)) := (((HM1.out.trans HM0.out).mono (by simp)).drew).trans hM4
    have HF4 := Lib.hid hF4
    have HA4 := Lib.hid hA4
    have HG4 := Lib.hid hG4
    have HX4 := Lib.hid hX4
    have HT4 := Lib.hid hT4
    have HD4 := Lib.hid hD4
    have HB4 := Lib.hid hB4
    have HM3 := Lib.hid hM3
    have HL4 := Lib.hid (fun g hg => (hbl g hg).1)
    have HS := Lib.hid (And.intro hs0 hs1)
    clear hHF hF4 hM4 hA4 hs1 hs0 hltw hG4 hbl hnb hX4 hT4 hD4 hB4 hM3 k1 j0 j1 k3 z3 HR3
    generalize w3.setCell ⟨fb, 1, none⟩ (.slice a3 (overL f.seen k x).length c3) = W4 at *
    have k3 := blk_cell HF4.out.row 3
    have j0 := blk_cell HG4.out 0
    have j1 := blk_cell HG4.out 1
    have HGa := Lib.hid (heap_alloc_new W4 (.cells #[.int .i64 k, .slice a1 x.length c1] 94))
    have HMa := Lib.hid (((Mod.refl [] W4).alloc (.cells #[.int .i64 k, .slice a1 x.length c1] 94)).drew)
    have HFa := Lib.hid (HF4.out.quiet HMa.out)
    have k3a := blk_cell (HF4.out.quiet ((Mod.refl [] W4).alloc (.cells #[.int .i64 k, .slice a1 x.length c1] 94))).row 3
    go_wp2_with fail
    go_region_law (refine step_appendW _ rfl _ _ rfl _ ws rfl HFa.out.wr _ ⟨k, x, a1, c1⟩ rfl HGa.out HBD.out.2.2.2 ?_; intro v5 w5 ho5 hm5 hb5; have hr5 := hm5.row HFa.out.row HFa.out.ne2; obtain ⟨a5, c5, rfl, -, -⟩ := owns_shape ho5; have k5 := blk_cell hr5 3; have z5 := blk_free hr5 3; have HO5 := Lib.hid ho5; have HM5 := Lib.hid hm5; have HB5 := Lib.hid hb5; clear ho5 hm5 hb5 hr5)
    all_goals
      go_wp2_with fail
      go_end0
      refine And.intro rfl ?_
      obtain ⟨hF5, hM5, hA5⟩ := HFa.out.more (m := ⟨k, x, a1, c1⟩) HO5.out HM5.out HB5.out ⟨HX4.out.mod HMa.out (by simp), HC1.out⟩ (fun g hg => (HT4.out g hg).mod HMa.out (by simp)) HD4.out
      rw [show (ws ++ [(⟨k, x, a1, c1⟩ : WrM)]).length = ws.length + 1 from List.length_append] at hF5 hM5 hA5
      have hsz1 := HM3.out.size
      have hsz2 := HMa.out.size
      have hsz3 := HS.out
      refine ⟨⟨_, _, ⟨k, x, a1, c1⟩, hF5, ?_⟩, HM3.out.trans' ((HMa.out.mono (by simp)).trans hM5) ?_⟩
      · intro g hg
        rcases hA5 g hg with h1 | h1 | h1
        · rcases HA4.out g h1 with h2 | h2
          · exact .inl h2
          · right
            have h3 : W.heap.size ≤ g := h2
            omega
        · exact .inr (HL4.out g h1)
        · right; omega
      · intro g hg
        rcases foot_new HB4.out hg with h1 | h1
        · exact .inl h1
        · right
          have h3 : W.heap.size ≤ g := h1
          omega
end Go.Proofs.Ytfcoaafmjllpfaa
