/- The disk: a file in memory: within, restore. -/
import Derived.Test.YtfcoaafmjllpfaaVfE
namespace Go.Proofs.Ytfcoaafmjllpfaa
open Go.Shelf Go.ChangeShapes Go.WideShapes Go.ChangeAt Go.RowKit
set_option linter.unusedVariables false
set_option linter.unusedSimpArgs false

theorem within_any (w : World) (n m : Int) : Calls Try.prog 49 #[.int .i64 n, .int .i64 m] w fun e w' => e = .returned (.int .i64 (withinI n m)) ∧ w' = w := by
  go_enter Try.func49, Try.ntmps49
  go_wp2
  go_ret
  exact ⟨rfl, rfl⟩
theorem withinI_nat (n : Int) (m : Nat) : ((withinI n m).toNat : Int) = withinI n m ∧ (withinI n m).toNat ≤ m := by
  unfold withinI
  omega
theorem cutW_succ (keep : List Int) (ws : List (Nat × List Int)) (k : Nat) (h : k < keep.length) (h2 : k < ws.length) : cutW (keep.take (k + 1)) ws = cutW (keep.take k) ws ++ [(ws[k].1, ws[k].2.take (withinI keep[k] ws[k].2.length).toNat)] := by
  induction k generalizing keep ws with
  | zero =>
    match keep, ws, h, h2 with
    | n :: ns, w :: ws, _, _ => simp [cutW]
  | succ k ih =>
    match keep, ws, h, h2 with
    | n :: ns, w :: ws, h, h2 =>
      have := ih ns ws (by simpa using h) (by simpa using h2)
      simp [cutW, this]
theorem cutW_nil (ws : List (Nat × List Int)) : cutW [] ws = [] := by cases ws <;> rfl
/-- a row of ints that came in -/
def KeepAt (w : World) (ka : Option Addr) (l : List Int) : Prop := l = [] ∨ ∃ b o, ka = some ⟨b, o, none⟩ ∧ ∀ i (h : i < l.length), w.cell? ⟨b, o + i, none⟩ = some (.int .i64 l[i])
theorem KeepAt.mod {F : List Nat} {w w' : World} {ka : Option Addr} {l : List Int} (h : KeepAt w ka l) (hm : Mod F w w') (hd : ∀ g ∈ blocks ka, g ∉ F) : KeepAt w' ka l := by
  rcases h with h | ⟨b, o, rfl, hc⟩
  · exact .inl h
  · exact .inr ⟨b, o, rfl, fun i hi => hm.cell (hc i hi) (hd b (by simp [blocks]))⟩
theorem KeepAt.mod2 {F : List Nat} {w w' : World} {ka : Option Addr} {l : List Int} (h : KeepAt w ka l) (hm : Mod F w w') (hd : l ≠ [] → ∀ g ∈ blocks ka, g ∉ F) : KeepAt w' ka l := by
  by_cases hl : l = []
  · exact .inl hl
  · exact h.mod hm (hd hl)
/-- so far -/
structure ReI (w wr : World) (fb : Nat) (f : FileD) (vs vu0 vu vw : Value) (ws : List WrM) (S : List Int) : Prop where
  here : FileAt wr fb { f with sure := S } vs vu vw ws
  mod : Mod (fFoot fb vs vu0 vw) w wr
  foot : ∀ g, vu.ownBlock = some g → vu0.ownBlock = some g ∨ w.heap.size ≤ g
  len : S.length ≤ 1000000000
theorem ReI.fit {w wr : World} {fb : Nat} {f : FileD} {vs vu0 vu vw : Value} {ws : List WrM} {S : List Int} (h : ReI w wr fb f vs vu0 vu vw ws S) : ∀ g ∈ fFoot fb vs vu vw, g ∈ fFoot fb vs vu0 vw ∨ w.heap.size ≤ g := by
  intro g hg
  simp only [fFoot, List.mem_cons, List.mem_append, Option.mem_toList] at hg ⊢
  rcases hg with h1 | h1 | h1 | h1
  · exact .inl (.inl h1)
  · exact .inl (.inr (.inl h1))
  · rcases h.foot g (by simpa using h1) with h2 | h2
    · exact .inl (.inr (.inr (.inl (by simpa using h2))))
    · exact .inr h2
  · exact .inl (.inr (.inr (.inr h1)))
theorem ReI.step {w wr W3 W4 : World} {fb : Nat} {f : FileD} {vs vu0 vu vw v3 : Value} {ws : List WrM} {S : List Int} (h : ReI w wr fb f vs vu0 vu vw ws S) {k : Nat} {x : List Int} (hb : Bytes x) (hl : k + x.length ≤ 1000000000) (hm : Mod [] wr W3) (ho : Over W3 0 vu (overL S k x) v3 W4) :
    ReI w (W4.setCell ⟨fb, 2, none⟩ v3) fb f vs vu0 v3 vw ws (overL S k x) := by
  obtain ⟨h1, h2, h3⟩ := (h.here.quiet hm).overU ho (overL_bytes h.here.bu hb)
  have hs := h.mod.size
  have hs2 := hm.size
  refine ⟨h1, h.mod.trans' ((hm.mono (by simp)).trans h2) h.fit, fun g hg => ?_, ?_⟩
  · rcases h3 g hg with h4 | h4
    · exact h.foot g h4
    · right; omega
  · have := overL_le S x k
    have := h.len
    omega
theorem within_nat (w : World) (n : Int) (m : Nat) : Calls Try.prog 49 #[.int .i64 n, .int .i64 m] w fun e w' => e = .returned (.int .i64 (withinI n m).toNat) ∧ w' = w := by
  rw [(withinI_nat n m).1]
  exact within_any w n m
/-- what is seen put anew, whatever its row -/
theorem FileAt.reseen {w w3 : World} {fb : Nat} {f : FileD} {vs vu vw : Value} {ws : List WrM} (h : FileAt w fb f vs vu vw ws) {l' : List Int} {v3 : Value} (hown : w3.ownsRow 0 5 1 v3 l'.length (u8s l')) (hmod : Mod vs.ownBlock.toList w w3) (hnew : ∀ g, v3.ownBlock = some g → vs.ownBlock = some g ∨ w.heap.size ≤ g) (hb : Bytes l') :
    FileAt (w3.setCell ⟨fb, 1, none⟩ v3) fb { f with seen := l' } v3 vu vw ws ∧ Mod (fFoot fb vs vu vw) w (w3.setCell ⟨fb, 1, none⟩ v3) ∧ ∀ g ∈ fAll fb v3 vu vw ws, g ∈ fAll fb vs vu vw ws ∨ w.heap.size ≤ g := by
  have hs : ∀ g, IsT 5 w g → g ≠ fb := fun g hg e => IsT.ne (e ▸ hg) (by decide) (⟨_, h.row⟩ : IsT 64 w fb)
  have hrow := hmod.row h.row h.ne1
  have nu : ∀ g, vu.ownBlock = some g → g ∉ vs.ownBlock.toList := fun g hg hg2 => h.ne g (by simpa using hg2) hg
  have nw : ∀ g, vw.ownBlock = some g → g ∉ vs.ownBlock.toList := fun g hg hg2 => IsT.ne (owns_isT h.wr hg) (by decide) (owns_isT h.seen (by simpa using hg2))
  have nm : ∀ m ∈ ws, ∀ g ∈ blocks m.a, g ∉ vs.ownBlock.toList := fun m hm g hg hg2 => (h.nx m hm g hg).1 (by simpa using hg2)
  have nv3 : ∀ g, v3.ownBlock = some g → g ≠ fb := fun g hg e => IsT.ne (owns_isT hown hg) (by decide) (e ▸ (⟨_, hrow⟩ : IsT 64 w3 fb))
  have nu2 : ∀ g, vu.ownBlock = some g → g ≠ fb := fun g hg => hs g (owns_isT h.sure hg)
  have nw2 : ∀ g, vw.ownBlock = some g → g ≠ fb := fun g hg e => IsT.ne (owns_isT h.wr hg) (by decide) (e ▸ (⟨_, h.row⟩ : IsT 64 w fb))
  have hms := mod_set w3 fb 1 v3
  refine ⟨⟨blk4_1 hrow v3, hms.owns hown (fun g hg => by simpa using nv3 g hg), hms.owns (hmod.owns h.sure nu) (fun g hg => by simpa using nu2 g hg), hms.owns (hmod.owns h.wr nw) (fun g hg => by simpa using nw2 g hg), h.eq, fun m hm => ⟨((h.wx m hm).1.mod hmod ?_).mod hms ?_, (h.wx m hm).2⟩, fun m hm g hg => ((h.wt m hm g hg).mod hmod (nm m hm g hg)).mod hms ?_, hb, h.bu, ?_, ?_⟩, ?_, ?_⟩
  · intro x hx
    exact nm m hm _ (by rw [hx]; simp [blocks])
  · intro x hx
    simpa using hs _ (h.wt m hm _ (by rw [hx]; simp [blocks]))
  · simpa using hs g (h.wt m hm g hg)
  · intro g hg hg2
    rcases hnew g hg with h1 | h1
    · exact h.ne g h1 hg2
    · have := (owns_lt h.sure hg2).2; omega
  · intro m hm g hg
    refine ⟨fun hg2 => ?_, (h.nx m hm g hg).2⟩
    rcases hnew g hg2 with h1 | h1
    · exact (h.nx m hm g hg).1 h1
    · have := (h.wt m hm g hg).lt; omega
  · refine (hmod.mono (fun x hx => .inl ?_)).trans (hms.mono (fun x hx => .inl ?_))
    · simp only [fFoot, List.mem_cons, List.mem_append]; right; left; exact hx
    · simp only [List.mem_singleton] at hx; subst hx; simp [fFoot]
  · intro g hg
    simp only [fAll, fFoot, List.mem_cons, List.mem_append, Option.mem_toList] at hg ⊢
    rcases hg with (h1 | h1 | h1 | h1) | h1
    · exact .inl (.inl (.inl h1))
    · rcases hnew g (by simpa using h1) with h2 | h2
      · exact .inl (.inl (.inr (.inl (by simpa using h2))))
      · exact .inr h2
    · exact .inl (.inl (.inr (.inr (.inl h1))))
    · exact .inl (.inl (.inr (.inr (.inr h1))))
    · exact .inl (.inr h1)
/-- what a restore leaves -/
def RestP (w : World) (fb : Nat) (f' : FileD) (vs vu vw : Value) (w' : World) : Prop := ∃ vs' vu', FileAt w' fb f' vs' vu' (.slice none 0 0) [] ∧ Mod (fFoot fb vs vu vw) w w' ∧ (∀ g, vu'.ownBlock = some g → vu.ownBlock = some g ∨ w.heap.size ≤ g) ∧ ∀ g, vs'.ownBlock = some g → w.heap.size ≤ g
set_option maxHeartbeats 4000000 in
theorem frestore_any (w : World) (fb : Nat) (f : FileD) (vs vu vw : Value) (ws : List WrM) (h : FileAt w fb f vs vu vw ws) (hp : ∀ m ∈ ws, m.k + m.x.length ≤ 1000000000) (hll : f.sure.length ≤ 1000000000) (hwl : ws.length ≤ 1000000000)
    (ka : Option Addr) (kc : Nat) (keep : List Int) (hK : KeepAt w ka keep) (hd : keep ≠ [] → ∀ g ∈ blocks ka, g < w.heap.size ∧ g ∉ fFoot fb vs vu vw) (hkl : keep.length ≤ ws.length) :
    Calls Try.prog 71 #[.pointer (some ⟨fb, 0, none⟩), .slice ka keep.length kc] w fun e w' => e = .returned (.tuple #[]) ∧ RestP w fb (f.restore keep) vs vu vw w' := by
  have HF := Lib.hid h
  have HP := Lib.hid hp
  have HK := Lib.hid hK
  have HD := Lib.hid hd
  have HLL := Lib.hid hll
  obtain ⟨awr, cwr, hvw, -, -⟩ := owns_shape h.wr
  subst hvw
  clear h hp hll hK hd
  go_enter Try.func71, Try.ntmps71
  go_wp2_with fail
  go_loopw [9] (fun i wr => ∃ (k : Nat) (v : Value) (S : List Int), i = .int .i64 k ∧ k ≤ keep.length ∧ S = overs f.sure (cutW (keep.take k) f.writes) ∧ ReI w wr fb f vs vu v (.slice awr ws.length cwr) ws S) (fun i _ => (keep.length - intOf i).toNat)
  case atStart => exact ⟨0, vu, f.sure, rfl, Nat.zero_le _, by rw [List.take_zero, cutW_nil]; rfl, HF.out, Mod.refl _ _, fun g hg => .inl hg, HLL.out⟩
  case round =>
    obtain ⟨k, v, S, rfl, hk, hS, hsy⟩ := hrel
    have HS := Lib.hid hsy
    have HSe := Lib.hid hS
    obtain ⟨av, cv, rfl, -, -⟩ := owns_shape hsy.here.sure
    have hkk : KeepAt wr ka keep := HK.out.mod2 hsy.mod (fun hne g hg => (HD.out hne g hg).2)
    clear hsy hS
    by_cases hlt : k < keep.length
    · have hlw : k < ws.length := by omega
      have heq : f.writes = ws.map fun m => (m.k, m.x) := HF.out.eq
      have hcut := cutW_succ keep f.writes k hlt (by rw [heq, List.length_map]; exact hlw)
      have hfw : f.writes[k]'(by rw [heq, List.length_map]; exact hlw) = ((ws[k]'hlw).k, (ws[k]'hlw).x) := by simp [heq]
      rw [hfw] at hcut
      have HCut := Lib.hid hcut
      clear heq hcut hfw
      obtain ⟨gw, hgw⟩ : ∃ gw, awr = some ⟨gw, 0, none⟩ := by
        rcases HS.out.here.wr.2 with ⟨_, hz⟩ | ⟨g, c, _, hv, _⟩
        · omega
        · exact ⟨g, by simp only [Value.slice.injEq] at hv; exact hv.1⟩
      subst hgw
      obtain ⟨kb, ko, hka, hcell⟩ : ∃ b o, ka = some ⟨b, o, none⟩ ∧ wr.cell? ⟨b, o + k, none⟩ = some (.int .i64 (keep[k]'hlt)) := by
        rcases hkk with h | ⟨b, o, h, hc⟩
        · rw [h] at hlt; simp at hlt
        · exact ⟨b, o, h, hc k hlt⟩
      subst hka
      have j0 := HS.out.here.wr.cellAt (k * 2) (by omega)
      have j1 := HS.out.here.wr.cellAt (k * 2 + 1) (by omega)
      rw [(wrCells_get hlw).1] at j0
      rw [(wrCells_get hlw).2] at j1
      have HMx := Lib.hid (HS.out.here.wx (ws[k]'hlw) (List.getElem_mem hlw))
      have HMp := Lib.hid (HP.out (ws[k]'hlw) (List.getElem_mem hlw))
      have HMn := Lib.hid (fun (g : Nat) (hg : g ∈ blocks (ws[k]'hlw).a) => (HS.out.here.nx (ws[k]'hlw) (List.getElem_mem hlw) g hg).2)
      generalize ws[k]'hlw = m at *
      generalize hq : keep[k]'hlt = q at *
      obtain ⟨mk, mx, ma, mc⟩ := m
      simp only at HCut j0 j1 HMx HMp HMn
      clear hkk
      have k3 := blk_cell HS.out.here.row 3
      have HN := Lib.hid (withinI_nat q mx.length).2
      have HWi := Lib.hid (fun W => within_nat W q mx.length)
      generalize (withinI q mx.length).toNat = n at *
      go_wp2_with fail
      have HG0 := Lib.hid (heap_alloc_new wr (.cells #[.int .i64 mk, .slice ma mx.length mc] 94))
      have HM0 := Lib.hid ((Mod.refl [] wr).alloc (.cells #[.int .i64 mk, .slice ma mx.length mc] 94))
      have HF2 := Lib.hid (HS.out.here.quiet HM0.out)
      have HX2 := Lib.hid (HMx.out.1.mod HM0.out (by simp))
      have HOv := Lib.hid (fun W (hf : FileAt W fb { f with sure := S } vs (.slice av S.length cv) (.slice (some ⟨gw, 0, none⟩) ws.length cwr) ws) (hc : Cells8 W ma mx) => over_all W mk ma mx.length mc 0 mx hc rfl HMx.out.2 (.slice av S.length cv) S hf.bu hf.sure (Nat.le_trans (Nat.le_add_right _ _) HMp.out) (Nat.le_trans (Nat.le_add_left _ _) HMp.out) HS.out.len (Nat.zero_le _) (fun g hg hg2 => HMn.out g hg2 hg) n HN.out)
      have k2 := blk_cell HF2.out.row 2
      have HTl := Lib.hid (show Bytes (mx.take n) ∧ mk + (mx.take n).length ≤ 1000000000 from ⟨HMx.out.1.1.take n, by rw [List.length_take]; have := HMp.out; omega⟩)
      have HST := Lib.hid (fun W3 W4 v3 (hm : Mod [] wr W3) ho => HS.out.step (W4 := W4) (v3 := v3) HTl.out.1 HTl.out.2 hm ho)
      clear j0 j1 k3 hcell
      generalize hW : wr.alloc (.cells #[.int .i64 mk, .slice ma mx.length mc] 94) = W at *
      have j0 := blk_cell HG0.out 0
      have j1 := blk_cell HG0.out 1
      go_region_with (first
        | (go_at_call 49; refine (HWi.out _).mono ?_; rintro e w9 ⟨rfl, rfl⟩)
        | (go_at_call 57; refine (HOv.out _ (HF2.out.quiet ((Mod.refl [] _).drew)) (HX2.out.mod ((Mod.refl [] _).drew) (by simp))).mono ?_; rintro e w3 ⟨v3, rfl, hov⟩; have hrow3 := hov.mod.row (HF2.out.quiet ((Mod.refl [] _).drew)).row HF2.out.ne3; obtain ⟨a3, c3, rfl, -, -⟩ := owns_shape hov.own; have k3 := blk_cell hrow3 2; have z3 := blk_free hrow3 2; have HOV := Lib.hid hov; clear hov hrow3))
      all_goals
        have HS2 := Lib.hid (HST.out _ _ _ HM0.out.drew HOV.out)
        clear k2 j0 j1 k3 z3
        go_wp2_with fail
        go_roundw
        case rel =>
          refine ⟨k + 1, _, _, by go_num, by omega, ?_, HS2.out⟩
          rw [HCut.out, overs_snoc, ← HSe.out]
        case measure => simp [intOf]; omega
    · have hke : k = keep.length := by omega
      subst hke
      have k2 := blk_cell HS.out.here.row 2
      have HCl := Lib.hid (clone_any wr av S.length cv S (Cells8.ofOwns HS.out.here.bu HS.out.here.sure) rfl HS.out.len)
      unfold CloneP at HCl
      go_wp2_with fail
      refine HCl.out.mono ?_
      rintro e w1 ⟨v1, rfl, ho1, hb1⟩
      obtain ⟨a1, c1, rfl, -, -⟩ := owns_shape ho1
      have hF1 := HS.out.here.quiet (Mod.ofBelow hb1)
      have k1 := blk_cell hF1.row 1
      have z1 := blk_free hF1.row 1
      have k3 := blk_cell hF1.row 3
      have z3 := blk_free hF1.row 3
      have HO1 := Lib.hid ho1
      have HB1 := Lib.hid hb1
      clear ho1 hb1 hF1 k2
      go_wp2_with fail
      go_end0
      refine And.intro rfl ?_
      obtain ⟨hF, hM, -⟩ := HS.out.here.reseen (w3 := w1) (v3 := .slice a1 S.length c1) (l' := S) (owns_rebase HO1.out (fun _ _ => Nat.zero_le _)) ((Mod.ofBelow HB1.out).mono (by simp)) (fun g hg => .inr (owns_lt HO1.out hg).1) HS.out.here.bu
      have hst : S = overs f.sure (cutW keep f.writes) := by rw [HSe.out, List.take_length]
      have hs1 := HS.out.mod.size
      refine ⟨.slice a1 S.length c1, .slice av S.length cv, ?_, HS.out.mod.trans' (hM.trans ((mod_set _ fb 3 _).mono (fun x hx => .inl (by rw [List.mem_singleton.1 hx]; exact List.mem_cons_self)))) HS.out.fit, HS.out.foot, ?_⟩
      · unfold FileD.restore
        rw [← hst]
        exact hF.waitless
      · intro g hg
        have := (owns_lt HO1.out hg).1
        omega
end Go.Proofs.Ytfcoaafmjllpfaa
