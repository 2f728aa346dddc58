/- The disk: a file in memory: synced. -/
import Derived.Test.YtfcoaafmjllpfaaVfD
namespace Go.Proofs.Ytfcoaafmjllpfaa
open Go.Shelf Go.ChangeShapes Go.WideShapes Go.ChangeAt Go.RowKit
set_option linter.unusedVariables false
set_option linter.unusedSimpArgs false

theorem overs_app (l : List Int) (a b : List (Nat × List Int)) : overs l (a ++ b) = overs (overs l a) b := by unfold overs; rw [List.foldl_append]
theorem overs_ge (l : List Int) (ws : List (Nat × List Int)) : l.length ≤ (overs l ws).length := by
  induction ws generalizing l with
  | nil => exact Nat.le_refl _
  | cons m ws ih => exact Nat.le_trans (overL_ge l m.2 m.1) (ih (overL l m.1 m.2))
theorem overs_take_le (l : List Int) (ws : List (Nat × List Int)) (k : Nat) : (overs l (ws.take k)).length ≤ (overs l ws).length := by
  rw [show overs l ws = overs (overs l (ws.take k)) (ws.drop k) from by rw [← overs_app, List.take_append_drop]]
  exact overs_ge _ _
theorem overs_take_succ (l : List Int) (ws : List WrM) (k : Nat) (h : k < ws.length) : overs l ((ws.map fun m => (m.k, m.x)).take (k + 1)) = overL (overs l ((ws.map fun m => (m.k, m.x)).take k)) ws[k].k ws[k].x := by
  rw [List.take_add_one, List.getElem?_map, List.getElem?_eq_getElem h, Option.map_some, Option.toList_some, overs_snoc]
theorem blk4_2 {w : World} {g : Nat} {t : TypeId} {a b c d : Value} (h : w.heap[g]? = some (.cells #[a, b, c, d] t (0, 0))) (v : Value) : (w.setCell ⟨g, 2, none⟩ v).heap[g]? = some (.cells #[a, b, v, d] t (0, 0)) := blk_set h 2 v
theorem FileAt.ne3 {w : World} {fb : Nat} {f : FileD} {vs vu vw : Value} {ws : List WrM} (h : FileAt w fb f vs vu vw ws) : fb ∉ vu.ownBlock.toList := by
  intro hg
  exact IsT.ne ⟨_, h.row⟩ (by decide) (owns_isT h.sure (by simpa using hg))
/-- what is sure put anew -/
theorem FileAt.overU {w w3 : World} {fb : Nat} {f : FileD} {vs vu vw : Value} {ws : List WrM} (h : FileAt w fb f vs vu vw ws) {l' : List Int} {v3 : Value} (ho : Over w 0 vu l' v3 w3) (hb : Bytes l') :
    FileAt (w3.setCell ⟨fb, 2, none⟩ v3) fb { f with sure := l' } vs v3 vw ws ∧ Mod (fFoot fb vs vu vw) w (w3.setCell ⟨fb, 2, none⟩ v3) ∧ ∀ g, v3.ownBlock = some g → vu.ownBlock = some g ∨ w.heap.size ≤ g := by
  have hs : ∀ g, IsT 5 w g → g ≠ fb := fun g hg e => IsT.ne (e ▸ hg) (by decide) (⟨_, h.row⟩ : IsT 64 w fb)
  have hrow := ho.mod.row h.row h.ne3
  have nu : ∀ g, vs.ownBlock = some g → g ∉ vu.ownBlock.toList := fun g hg hg2 => h.ne g hg (by simpa using hg2)
  have nw : ∀ g, vw.ownBlock = some g → g ∉ vu.ownBlock.toList := fun g hg hg2 => IsT.ne (owns_isT h.wr hg) (by decide) (owns_isT h.sure (by simpa using hg2))
  have nm : ∀ m ∈ ws, ∀ g ∈ blocks m.a, g ∉ vu.ownBlock.toList := fun m hm g hg hg2 => (h.nx m hm g hg).2 (by simpa using hg2)
  have nv3 : ∀ g, v3.ownBlock = some g → g ≠ fb := fun g hg e => IsT.ne (owns_isT ho.own hg) (by decide) (e ▸ (⟨_, hrow⟩ : IsT 64 w3 fb))
  have nu2 : ∀ g, vs.ownBlock = some g → g ≠ fb := fun g hg => hs g (owns_isT h.seen hg)
  have nw2 : ∀ g, vw.ownBlock = some g → g ≠ fb := fun g hg e => IsT.ne (owns_isT h.wr hg) (by decide) (e ▸ (⟨_, h.row⟩ : IsT 64 w fb))
  have hnew : ∀ g, v3.ownBlock = some g → vu.ownBlock = some g ∨ w.heap.size ≤ g := fun g hg => by
    rcases ho.blk with hk | ⟨k, hk, hk2⟩
    · left; rw [← hk]; exact hg
    · right; rw [hk] at hg; simp at hg; omega
  have hms := mod_set w3 fb 2 v3
  refine ⟨⟨blk4_2 hrow v3, hms.owns (ho.mod.owns h.seen nu) (fun g hg => by simpa using nu2 g hg), hms.owns ho.own (fun g hg => by simpa using nv3 g hg), hms.owns (ho.mod.owns h.wr nw) (fun g hg => by simpa using nw2 g hg), h.eq, fun m hm => ⟨((h.wx m hm).1.mod ho.mod ?_).mod hms ?_, (h.wx m hm).2⟩, fun m hm g hg => ((h.wt m hm g hg).mod ho.mod (nm m hm g hg)).mod hms ?_, h.bs, hb, ?_, ?_⟩, ?_, hnew⟩
  · intro x hx
    exact nm m hm _ (by rw [hx]; simp [blocks])
  · intro x hx
    simpa using hs _ (h.wt m hm _ (by rw [hx]; simp [blocks]))
  · simpa using hs g (h.wt m hm g hg)
  · intro g hg hg2
    rcases hnew g hg2 with h1 | h1
    · exact h.ne g hg h1
    · have := (owns_lt h.seen hg).2; omega
  · intro m hm g hg
    refine ⟨(h.nx m hm g hg).1, fun hg2 => ?_⟩
    rcases hnew g hg2 with h1 | h1
    · exact (h.nx m hm g hg).2 h1
    · have := (h.wt m hm g hg).lt; omega
  · refine (ho.mod.mono (fun x hx => .inl ?_)).trans (hms.mono (fun x hx => .inl ?_))
    · simp only [fFoot, List.mem_cons, List.mem_append]; right; right; left; exact hx
    · simp only [List.mem_singleton] at hx; subst hx; simp [fFoot]
/-- no write waits -/
theorem FileAt.waitless {w : World} {fb : Nat} {f : FileD} {vs vu vw : Value} {ws : List WrM} (h : FileAt w fb f vs vu vw ws) : FileAt (w.setCell ⟨fb, 3, Option.none⟩ (.slice Option.none 0 0)) fb { f with writes := [] } vs vu (.slice Option.none 0 0) [] := by
  have hms := mod_set w fb 3 (.slice Option.none 0 0)
  have h1 := h.ne1
  have h3 := h.ne3
  exact ⟨blk4_3 h.row _, hms.owns h.seen (fun g hg => by simp only [List.mem_singleton]; intro e; exact h1 (by rw [hg, e]; simp)), hms.owns h.sure (fun g hg => by simp only [List.mem_singleton]; intro e; exact h3 (by rw [hg, e]; simp)), World.ownsRow_nil _ _ _ _, rfl, fun m hm => (by cases hm), fun m hm => (by cases hm), h.bs, h.bu, h.ne, fun m hm => (by cases hm)⟩
/-- so far -/
structure SyI (w wr : World) (fb : Nat) (f : FileD) (vs vu0 vu vw : Value) (ws : List WrM) (k : Nat) : Prop where
  here : FileAt wr fb { f with sure := overs f.sure (f.writes.take k) } vs vu vw ws
  mod : Mod (fFoot fb vs vu0 vw) w wr
  foot : ∀ g, vu.ownBlock = some g → vu0.ownBlock = some g ∨ w.heap.size ≤ g
theorem SyI.step {w wr W3 W4 : World} {fb : Nat} {f : FileD} {vs vu0 vu vw v3 : Value} {ws : List WrM} {k : Nat} (h : SyI w wr fb f vs vu0 vu vw ws k) (hk : k < ws.length) (hm : Mod [] wr W3) (ho : Over W3 0 vu (overL (overs f.sure (f.writes.take k)) ws[k].k ws[k].x) v3 W4) :
    SyI w (W4.setCell ⟨fb, 2, none⟩ v3) fb f vs vu0 v3 vw ws (k + 1) := by
  have hb := (h.here.wx ws[k] (List.getElem_mem hk)).1.1
  obtain ⟨h1, h2, h3⟩ := (h.here.quiet hm).overU ho (overL_bytes h.here.bu hb)
  have hs := h.mod.size
  have hs2 := hm.size
  have hfoot : ∀ g ∈ fFoot fb vs vu vw, g ∈ fFoot fb vs vu0 vw ∨ w.heap.size ≤ g := by
    intro g hg
    simp only [fFoot, List.mem_cons, List.mem_append, Option.mem_toList] at hg ⊢
    rcases hg with h1 | h1 | h1 | h1
    · exact .inl (.inl h1)
    · exact .inl (.inr (.inl h1))
    · rcases h.foot g (by simpa using h1) with h2 | h2
      · exact .inl (.inr (.inr (.inl (by simpa using h2))))
      · exact .inr h2
    · exact .inl (.inr (.inr (.inr h1)))
  refine ⟨?_, h.mod.trans' ((hm.mono (by simp)).trans h2) hfoot, fun g hg => ?_⟩
  · have heq : f.writes = ws.map fun m => (m.k, m.x) := h.here.eq
    have hst : overs f.sure (f.writes.take (k + 1)) = overL (overs f.sure (f.writes.take k)) ws[k].k ws[k].x := by rw [heq]; exact overs_take_succ _ _ _ hk
    rw [hst]
    exact h1
  · rcases h3 g hg with h4 | h4
    · exact h.foot g h4
    · right; omega
theorem wrCells_get {ws : List WrM} {k : Nat} (h : k < ws.length) : (wrCells ws)[k * 2]? = some (.int .i64 ws[k].k) ∧ (wrCells ws)[k * 2 + 1]? = some (.slice ws[k].a ws[k].x.length ws[k].c) := by
  induction ws generalizing k with
  | nil => simp at h
  | cons m ws ih =>
    cases k with
    | zero => exact ⟨rfl, rfl⟩
    | succ k =>
      have h2 : k < ws.length := by simpa using h
      have h3 := ih h2
      refine ⟨?_, ?_⟩
      · rw [show (k + 1) * 2 = k * 2 + 2 from by omega]; exact h3.1
      · rw [show (k + 1) * 2 + 1 = k * 2 + 1 + 2 from by omega]; exact h3.2
/-- what a sync leaves -/
def SyncP (w : World) (fb : Nat) (f' : FileD) (vs vu vw : Value) (w' : World) : Prop := ∃ vu', FileAt w' fb f' vs vu' (.slice none 0 0) [] ∧ Mod (fFoot fb vs vu vw) w w' ∧ ∀ g, vu'.ownBlock = some g → vu.ownBlock = some g ∨ w.heap.size ≤ g
set_option maxHeartbeats 4000000 in
theorem fsync_any (w : World) (fb : Nat) (f : FileD) (vs vu vw : Value) (ws : List WrM) (h : FileAt w fb f vs vu vw ws) (hok : f.ok) (hp : ∀ m ∈ ws, m.k ≤ 1000000000 ∧ m.x.length ≤ 1000000000) (hll : f.seen.length ≤ 1000000000) (hwl : ws.length ≤ 1000000000) :
    Calls Try.prog 30 #[.pointer (some ⟨fb, 0, none⟩)] w fun e w' => e = .returned (.tuple #[]) ∧ SyncP w fb f.sync vs vu vw w' := by
  have HF := Lib.hid h
  have HOK := Lib.hid hok
  have HP := Lib.hid hp
  have HLL := Lib.hid hll
  obtain ⟨awr, cwr, hvw, -, -⟩ := owns_shape h.wr
  subst hvw
  have k3 := blk_cell h.row 3
  clear h hok hp hll
  go_enter Try.func30, Try.ntmps30
  go_wp2_with fail
  clear k3
  go_loopw [9] (fun i wr => ∃ (k : Nat) (v : Value), i = .int .i64 k ∧ k ≤ ws.length ∧ SyI w wr fb f vs vu v (.slice awr ws.length cwr) ws k) (fun i _ => (ws.length - intOf i).toNat)
  case atStart => exact ⟨0, vu, rfl, Nat.zero_le _, by simpa [overs] using HF.out, Mod.refl _ _, fun g hg => .inl hg⟩
  case round =>
    obtain ⟨k, v, rfl, hk, hsy⟩ := hrel
    have HS := Lib.hid hsy
    obtain ⟨av, cv, rfl, -, -⟩ := owns_shape hsy.here.sure
    clear hsy
    by_cases hlt : k < ws.length
    · have HST := Lib.hid (fun W3 W4 v3 (hm : Mod [] wr W3) ho => HS.out.step (W4 := W4) (v3 := v3) hlt hm ho)
      obtain ⟨gw, hgw⟩ : ∃ gw, awr = some ⟨gw, 0, none⟩ := by
        rcases HS.out.here.wr.2 with ⟨_, hz⟩ | ⟨g, c, _, hv, _⟩
        · omega
        · exact ⟨g, by simp only [Value.slice.injEq] at hv; exact hv.1⟩
      subst hgw
      have j0 := HS.out.here.wr.cellAt (k * 2) (by omega)
      have j1 := HS.out.here.wr.cellAt (k * 2 + 1) (by omega)
      rw [(wrCells_get hlt).1] at j0
      rw [(wrCells_get hlt).2] at j1
      have HMx := Lib.hid (HS.out.here.wx ws[k] (List.getElem_mem hlt))
      have HMp := Lib.hid (HP.out ws[k] (List.getElem_mem hlt))
      have HMn := Lib.hid (fun (g : Nat) (hg : g ∈ blocks (ws[k]'hlt).a) => (HS.out.here.nx (ws[k]'hlt) (List.getElem_mem hlt) g hg).2)
      have HLs := Lib.hid (show (overs f.sure (f.writes.take k)).length ≤ 1000000000 from Nat.le_trans (overs_take_le _ _ _) (by rw [← (show f.seen = overs f.sure f.writes from HOK.out)]; exact HLL.out))
      generalize ws[k] = m at *
      obtain ⟨mk, mx, ma, mc⟩ := m
      simp only at HST j0 j1 HMx HMp HMn
      generalize hsu : overs f.sure (f.writes.take k) = U at *
      have HG0 := Lib.hid (heap_alloc_new wr (.cells #[.int .i64 mk, .slice ma mx.length mc] 94))
      have HM0 := Lib.hid ((Mod.refl [] wr).alloc (.cells #[.int .i64 mk, .slice ma mx.length mc] 94))
      have HF2 := Lib.hid (HS.out.here.quiet HM0.out)
      have HX2 := Lib.hid (HMx.out.1.mod HM0.out (by simp))
      rw [hsu] at HF2
      have HOv := Lib.hid (fun W (hf : FileAt W fb { f with sure := U } vs (.slice av U.length cv) (.slice (some ⟨gw, 0, none⟩) ws.length cwr) ws) (hc : Cells8 W ma mx) => over_all W mk ma mx.length mc 0 mx hc rfl HMx.out.2 (.slice av U.length cv) U hf.bu hf.sure HMp.out.1 HMp.out.2 HLs.out (Nat.zero_le _) (fun g hg hg2 => HMn.out g hg2 hg) mx.length (Nat.le_refl _))
      rw [List.take_length] at HOv
      have k2 := blk_cell HF2.out.row 2
      go_wp2_with fail
      clear j0 j1
      generalize hW : wr.alloc (.cells #[.int .i64 mk, .slice ma mx.length mc] 94) = W at *
      have j0 := blk_cell HG0.out 0
      have j1 := blk_cell HG0.out 1
      go_region_with (first
        | (go_at_call 57; refine (HOv.out _ (HF2.out.quiet ((Mod.refl [] _).drew)) (HX2.out.mod ((Mod.refl [] _).drew) (by simp))).mono ?_; rintro e w3 ⟨v3, rfl, hov⟩; have hrow3 := hov.mod.row (HF2.out.quiet ((Mod.refl [] _).drew)).row HF2.out.ne3; obtain ⟨a3, c3, rfl, -, -⟩ := owns_shape hov.own; have k3 := blk_cell hrow3 2; have z3 := blk_free hrow3 2; have HOV := Lib.hid hov; clear hov hrow3))
      all_goals
        have HS2 := Lib.hid (HST.out _ _ _ HM0.out.drew HOV.out)
        clear k2 j0 j1 k3 z3
        go_wp2_with fail
        go_roundw
        case rel => exact ⟨k + 1, _, by go_num, by omega, HS2.out⟩
        case measure => simp [intOf]; omega
    · have hke : k = ws.length := by omega
      subst hke
      have k3 := blk_cell HS.out.here.row 3
      have z3 := blk_free HS.out.here.row 3
      go_wp2_with fail
      go_end0
      refine And.intro rfl ?_
      have hF := HS.out.here.waitless
      have heq : f.writes = ws.map fun m => (m.k, m.x) := HF.out.eq
      have hst : overs f.sure (f.writes.take ws.length) = f.seen := by
        rw [List.take_of_length_le (by rw [heq]; simp)]
        exact HOK.out.symm
      refine ⟨_, (show FileAt _ fb f.sync _ _ _ _ from ?_), HS.out.mod.trans ((mod_set _ fb 3 _).mono (fun x hx => .inl (by simp only [List.mem_singleton] at hx; subst hx; simp [fFoot]))), HS.out.foot⟩
      have h2 : f.sync = { f with sure := overs f.sure (f.writes.take ws.length), writes := [] } := by rw [hst]; rfl
      rw [h2]
      exact hF
end Go.Proofs.Ytfcoaafmjllpfaa
