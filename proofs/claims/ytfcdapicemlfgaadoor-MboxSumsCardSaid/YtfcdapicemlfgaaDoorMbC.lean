/- Mailboxes: note, flag, leave. -/
import Derived.Test.YtfcdapicemlfgaaDoorMbB
namespace Go.Proofs.YtfcdapicemlfgaaDoor
open Go.ChangeShapes Go.WideShapes Go.ChangeAt Go.RowKit
open Qu
set_option linter.unusedVariables false
set_option linter.unusedSimpArgs false

theorem MB.setOrgs {w w' : World} {g ge go n : Nat} {b : Bx} (h : MB w g ge go n b) {O : List (Int × Int)} (ho : OrgsAt w' go (n + 1) O) (hm : Mod [go] w w') : MB w' g ge go (n + 1) { b with O := O } := by
  obtain ⟨h1, h2⟩ := h.gne
  exact ⟨hm.row h.row (by simp; omega), (h.ents.mod hm (by simp; exact h.ne)).mono (by omega), ho, h.ne⟩
theorem MB.setEnts {w w' : World} {g ge go n : Nat} {b : Bx} (h : MB w g ge go n b) {L : List (Int × Ent)} (ho : EntsAt w' ge (n + 1) L) (hm : Mod [ge] w w') : MB w' g ge go (n + 1) { b with L := L } := by
  obtain ⟨h1, h2⟩ := h.gne
  exact ⟨hm.row h.row (by simp; omega), ho, (h.orgs.mod hm (by simp; exact fun e => h.ne e.symm)).mono (by omega), h.ne⟩
theorem note_none {O : List (Int × Int)} {org uid : Int} (h0 : org ≠ 0) (h : findI O org = none) : noteX O org uid = putI O org uid := by unfold noteX; rw [if_neg h0, h]
theorem note_less {O : List (Int × Int)} {org uid m : Int} (h0 : org ≠ 0) (h : findI O org = some m) (hl : uid < m) : noteX O org uid = putI O org uid := by unfold noteX; rw [if_neg h0, h]; simp only; rw [if_pos hl]
theorem note_more {O : List (Int × Int)} {org uid m : Int} (h0 : org ≠ 0) (h : findI O org = some m) (hl : m ≤ uid) : noteX O org uid = O := by unfold noteX; rw [if_neg h0, h]; simp only; rw [if_neg (by omega)]
theorem note_any (w : World) (g ge go n : Nat) (b : Bx) (h : MB w g ge go n b) (hn : n ≤ 1000000) (org uid : Int) (hk0 : 0 ≤ org) (hk1 : org ≤ 9007199254740992) : Calls Tryd.prog 55 #[.pointer (some ⟨g, 0, none⟩), .int .i64 org, .int .i64 uid] w fun e w' => e = .returned (.tuple #[]) ∧ MB w' g ge go (n + 1) { b with O := noteX b.O org uid } ∧ Mod [go] w w' := by
  have k1 := blk_cell h.row 1
  have HB := Lib.hid h
  have HO := Lib.hid h.orgs
  have hx0 : -9223372036854775808 ≤ org := by omega
  have hx1 : org ≤ 9223372036854775807 := by omega
  by_cases h0 : org = 0
  · have HR := Lib.hid (show noteX b.O org uid = b.O by unfold noteX; rw [if_pos h0])
    have h0' : (org == 0) = true := by simpa using h0
    clear h h0
    go_enter Tryd.func55, Tryd.ntmps55
    go_wp2_with fail
    refine bodyPost_ret (results_none rfl _ _ _) rfl ?_
    exact And.intro rfl ⟨by rw [HR.out]; exact HB.out.mono (by omega), Mod.refl _ _⟩
  · have h0' : (org == 0) = false := by simpa using h0
    cases hf : findI b.O org with
    | none =>
      have HR := Lib.hid (note_none (uid := uid) h0 hf)
      have HV := Lib.hid (show intV ((findI b.O org).getD 0) = .int .i64 0 by rw [hf]; rfl)
      have HC := Lib.hid (show (findI b.O org).isSome = false by rw [hf]; rfl)
      clear h h0 hf
      go_enter Tryd.func55, Tryd.ntmps55
      go_wp2_with (first | (at_lookup; refine wpList_lookI (val := intV) (K := 3) _ rfl _ _ 63 3 rfl under_int Tryd.underlying63 intV_inj 0 (zeroInt _) go n b.O rfl HO.out org rfl hx0 hx1 (.int .i64 0) HV.out false HC.out ?_) | (at_mapUpdate; refine wpList_putI (val := intV) (K := 3) _ rfl _ _ _ 63 3 rfl under_int Tryd.underlying63 intV_inj go n b.O rfl HO.out (by simp only [maxLen]; omega) org rfl hx0 hx1 uid rfl ?_; intro w2 ho2 hm2; have HO2 := Lib.hid ho2; have HM2 := Lib.hid hm2; clear ho2 hm2))
      go_end0
      exact And.intro rfl ⟨by rw [HR.out]; exact HB.out.setOrgs HO2.out HM2.out, HM2.out⟩
    | some m =>
      have HV := Lib.hid (show intV ((findI b.O org).getD 0) = .int .i64 m by rw [hf]; rfl)
      have HC := Lib.hid (show (findI b.O org).isSome = true by rw [hf]; rfl)
      by_cases hl : uid < m
      · have HR := Lib.hid (note_less h0 hf hl)
        clear h h0 hf
        go_enter Tryd.func55, Tryd.ntmps55
        go_wp2_with (first | (at_lookup; refine wpList_lookI (val := intV) (K := 3) _ rfl _ _ 63 3 rfl under_int Tryd.underlying63 intV_inj 0 (zeroInt _) go n b.O rfl HO.out org rfl hx0 hx1 (.int .i64 m) HV.out true HC.out ?_) | (at_mapUpdate; refine wpList_putI (val := intV) (K := 3) _ rfl _ _ _ 63 3 rfl under_int Tryd.underlying63 intV_inj go n b.O rfl HO.out (by simp only [maxLen]; omega) org rfl hx0 hx1 uid rfl ?_; intro w2 ho2 hm2; have HO2 := Lib.hid ho2; have HM2 := Lib.hid hm2; clear ho2 hm2))
        go_end0
        exact And.intro rfl ⟨by rw [HR.out]; exact HB.out.setOrgs HO2.out HM2.out, HM2.out⟩
      · have hl' : m ≤ uid := by omega
        have HR := Lib.hid (note_more h0 hf hl')
        clear h h0 hf hl
        go_enter Tryd.func55, Tryd.ntmps55
        go_wp2_with (at_lookup; refine wpList_lookI (val := intV) (K := 3) _ rfl _ _ 63 3 rfl under_int Tryd.underlying63 intV_inj 0 (zeroInt _) go n b.O rfl HO.out org rfl hx0 hx1 (.int .i64 m) HV.out true HC.out ?_)
        go_end0
        exact And.intro rfl ⟨by rw [HR.out]; exact HB.out.mono (by omega), Mod.refl _ _⟩
theorem liveX_some {b : Bx} {k : Int} {e : Ent} (h : liveX b k = some e) : liveE b k = e ∧ e.gone = false := by
  obtain ⟨h1, h2⟩ := live_find h
  unfold liveE
  rw [h1]; exact ⟨rfl, h2⟩
theorem flagX_no {b : Bx} {k f : Int} (h : liveX b k = none) : flagX b k f = (b, false) := by unfold flagX; rw [h]
theorem flagX_yes {b : Bx} {k f : Int} {e : Ent} (h : liveX b k = some e) : flagX b k f = ({ b with L := putI b.L k { e with flags := f } }, true) := by unfold flagX; rw [h]
theorem leaveX_no {b : Bx} {k : Int} (h : liveX b k = none) : leaveX b k = (b, false) := by unfold leaveX; rw [h]
theorem leaveX_yes {b : Bx} {k : Int} {e : Ent} (h : liveX b k = some e) : leaveX b k = (⟨putI b.L k { e with gone := true, flags := 0 }, b.O, takeX b.ub b.uc e.size, takeY b.ub b.uc e.size, b.next⟩, true) := by unfold leaveX; rw [h]; rfl
/-- a mailbox behind a call, with what is answered -/
def BoxP (g ge go n : Nat) (r : Bx × Bool) (w : World) (e : Ending) (w' : World) : Prop := e = .returned (.bool r.2) ∧ MB w' g ge go (n + 2) r.1 ∧ Mod [g, ge, go] w w'
theorem MB.storeE {w : World} {g ge go n : Nat} {b : Bx} (h : MB w g ge go n b) (hn : n ≤ 1000000) {k : Int} (k0 : -9223372036854775808 ≤ k) (k1 : k ≤ 9223372036854775807) (e : Ent) : ∃ w', (Instr.mapUpdate 62 (.map (some ge)) (.int .i64 k) (.agg (entC e))).run Tryd.prog w = .ok () w' ∧ MB w' g ge go (n + 1) { b with L := putI b.L k e } ∧ Mod [ge] w w' := by
  obtain ⟨w', h1, h2, h3⟩ := World.ownsMap.store h.ents (Maps.int_keyed under_int) Tryd.underlying62 (by simp only [maxLen]; omega) (int_key under_int k0 k1) (elR_val entV_inj e)
  rw [mI_put] at h2
  exact ⟨w', h1, h.setEnts h2 (mod_turned h3), mod_turned h3⟩
set_option maxRecDepth 100000 in
set_option maxHeartbeats 2000000 in
theorem flag_any (w : World) (g ge go n : Nat) (b : Bx) (h : MB w g ge go n b) (hn : n ≤ 1000000) (k f : Int) (hk0 : -9223372036854775808 ≤ k) (hk1 : k ≤ 9223372036854775807) : Calls Tryd.prog 36 #[.pointer (some ⟨g, 0, none⟩), .int .i64 k, .int .i64 f] w (BoxP g ge go n (flagX b k f) w) := by
  unfold BoxP
  have hL := live_any w g ge go n b h k hk0 hk1
  unfold EntP at hL
  have HB := Lib.hid h
  cases hx : liveX b k with
  | none =>
    rw [hx] at hL
    rw [flagX_no hx]
    generalize liveE b k = e at *
    have HL := Lib.hid hL
    clear h hL hx
    go_enter Tryd.func36, Tryd.ntmps36
    go_wp2_with (go_at_call 56; (refine HL.out.mono ?_); rintro x w1 ⟨rfl, hm⟩; have HB1 := Lib.hid (HB.out.quiet (hm.alloc (.cells (entC e) 39))); have HM1 := Lib.hid (hm.alloc (.cells (entC e) 39)); clear hm)
    go_ret
    exact ⟨rfl, HB1.out.mono (by omega), HM1.out.mono (by simp)⟩
  | some e =>
    rw [hx, (liveX_some hx).1] at hL
    rw [flagX_yes hx]
    have HL := Lib.hid hL
    clear h hL hx
    go_enter Tryd.func36, Tryd.ntmps36
    go_wp2_with (go_at_call 56; (refine HL.out.mono ?_); rintro x w1 ⟨rfl, hm⟩; have HB1 := Lib.hid (HB.out.quiet (hm.alloc (.cells (entC { e with flags := f }) 39))); have HM1 := Lib.hid (hm.alloc (.cells (entC { e with flags := f }) 39)); have HE1 := Lib.hid (heap_alloc_new w1 (.cells (entC { e with flags := f }) 39)); clear hm)
    generalize hW : w1.alloc (.cells (entC { e with flags := f }) 39) = W at *
    generalize hp0 : w1.heap.size = p0 at *
    obtain ⟨w4, hst, hb4, hm4⟩ := (HB1.out.quiet ((Mod.refl [] W).drew)).storeE hn hk0 hk1 { e with flags := f }
    have HB4 := Lib.hid hb4
    have HM4 := Lib.hid hm4
    have hgn := HB1.out.gne
    have hpn : p0 ≠ ge := by
      rintro rfl
      obtain ⟨_, _, h1, _⟩ := HB1.out.ents
      have h0 := HE1.out
      rw [h1] at h0; cases h0
    have hr4 := hm4.row (blk_drew HB1.out.row) (by simp; exact hgn.1)
    have he4 := hm4.row (blk_drew HE1.out) (by simp; exact hpn)
    clear hb4 hm4 hgn hpn hW
    have k0 := blk_cell HB1.out.row 0
    have s0 := blk_cell HE1.out 0
    have s1 := blk_cell HE1.out 1
    have s2 := blk_cell HE1.out 2
    have s3 := blk_cell HE1.out 3
    have s4 := blk_cell HE1.out 4
    have s5 := blk_cell HE1.out 5
    have s6 := blk_cell HE1.out 6
    have j0 := blk_cell hr4 0
    have t0 := blk_cell he4 0
    have t1 := blk_cell he4 1
    have t2 := blk_cell he4 2
    have t3 := blk_cell he4 3
    have t4 := blk_cell he4 4
    have t5 := blk_cell he4 5
    have t6 := blk_cell he4 6
    clear hr4 he4
    go_region_held3 (fun W => W.cell? ⟨g, 0, none⟩ = some (.map (some ge)) ∧ W.cell? ⟨p0, 0, none⟩ = some (.int .i64 e.uid) ∧ W.cell? ⟨p0, 1, none⟩ = some (.int .i64 e.time) ∧ W.cell? ⟨p0, 2, none⟩ = some (.int .i64 f) ∧ W.cell? ⟨p0, 3, none⟩ = some (.int .i64 e.body) ∧ W.cell? ⟨p0, 4, none⟩ = some (.int .i64 e.size) ∧ W.cell? ⟨p0, 5, none⟩ = some (.int .i64 e.org) ∧ W.cell? ⟨p0, 6, none⟩ = some (.bool e.gone)) (first | go_keep | (refine ⟨?_, ?_, ?_, ?_, ?_, ?_, ?_, ?_⟩ <;> assumption)) (fail)
    go_wp2_with fail
    go_ret
    exact ⟨rfl, HB4.out.mono (by omega), (HM1.out.drew.mono (by simp)).trans' HM4.out (by intro x hx; simp at hx; subst hx; left; simp)⟩
/-- the mailbox with another use -/
theorem MB.setUse {w : World} {g ge go n : Nat} {b : Bx} (h : MB w g ge go n b) (x y : Int) : MB ((w.setCell ⟨g, 2, none⟩ (.int .i64 x)).setCell ⟨g, 3, none⟩ (.int .i64 y)) g ge go n { b with ub := x, uc := y } ∧ Mod [g] w ((w.setCell ⟨g, 2, none⟩ (.int .i64 x)).setCell ⟨g, 3, none⟩ (.int .i64 y)) := by
  have hm : Mod [g] w ((w.setCell ⟨g, 2, none⟩ (.int .i64 x)).setCell ⟨g, 3, none⟩ (.int .i64 y)) := ((Mod.refl [g] w).setCell (p := ⟨g, 2, none⟩) (Or.inl (by simp)) _).setCell (p := ⟨g, 3, none⟩) (Or.inl (by simp)) _
  obtain ⟨h1, h2⟩ := h.gne
  exact ⟨⟨blk_set (blk_set h.row 2 _) 3 _, h.ents.mod hm (by simp; omega), h.orgs.mod hm (by simp; omega), h.ne⟩, hm⟩
theorem bool_size : (Tryd.prog.info? 4).map (·.size) = some 1 := by kernel_rfl
theorem leave_mod {w w2 w3 w5 w6 : World} {g ge go p : Nat} (h2 : Mod [] w w2) (h3 : Mod [g] w2 w3) (h5 : Mod [p] w3 w5) (h6 : Mod [ge] w5.drew w6) (hp : w.heap.size ≤ p) : Mod [g, ge, go] w w6 := by
  have a1 : Mod [g, ge, go] w w3 := (h2.mono (by simp)).trans' h3 (by intro x hx; simp at hx; subst hx; left; simp)
  have a2 : Mod [g, ge, go] w w5 := a1.trans' h5 (by intro x hx; simp at hx; subst hx; right; exact hp)
  exact a2.drew.trans' h6 (by intro x hx; simp at hx; subst hx; left; simp)
theorem take_any2 (ub uc s : Int) (W : World) : Calls Tryd.prog 57 #[.agg (pr ub uc), .int .i64 s] W fun e w' => (∃ c : Bool, e = .returned (.tuple #[.agg (pr (takeX ub uc s) (takeY ub uc s)), .bool c])) ∧ Mod [] W w' := (Qu.take_any ub uc s W).mono fun e w' h => ⟨⟨_, h.1⟩, h.2⟩
set_option maxRecDepth 100000 in
set_option maxHeartbeats 4000000 in
theorem leave_any (w : World) (g ge go n : Nat) (b : Bx) (h : MB w g ge go n b) (hn : n ≤ 1000000) (k : Int) (hk0 : -9223372036854775808 ≤ k) (hk1 : k ≤ 9223372036854775807) : Calls Tryd.prog 35 #[.pointer (some ⟨g, 0, none⟩), .int .i64 k] w (BoxP g ge go n (leaveX b k) w) := by
  unfold BoxP
  have hL := live_any w g ge go n b h k hk0 hk1
  unfold EntP at hL
  have HB := Lib.hid h
  cases hx : liveX b k with
  | none =>
    rw [hx] at hL
    rw [leaveX_no hx]
    generalize liveE b k = e at *
    have HL := Lib.hid hL
    clear h hL hx
    go_enter Tryd.func35, Tryd.ntmps35
    go_wp2_with (go_at_call 56; (refine HL.out.mono ?_); rintro x w1 ⟨rfl, hm⟩; have HB1 := Lib.hid (HB.out.quiet (hm.alloc (.cells (entC e) 39))); have HM1 := Lib.hid (hm.alloc (.cells (entC e) 39)); clear hm)
    go_ret
    exact ⟨rfl, HB1.out.mono (by omega), HM1.out.mono (by simp)⟩
  | some e =>
    rw [hx, (liveX_some hx).1] at hL
    rw [leaveX_yes hx]
    have HL := Lib.hid hL
    have hT := take_any2 b.ub b.uc e.size
    generalize takeX b.ub b.uc e.size = tx at *
    generalize takeY b.ub b.uc e.size = ty at *
    have HT := Lib.hid hT
    clear h hL hx hT
    go_enter Tryd.func35, Tryd.ntmps35
    go_wp2_with (go_at_call 56; (refine HL.out.mono ?_); rintro x w1 ⟨rfl, hm⟩; have HB1 := Lib.hid (HB.out.quiet (hm.alloc (.cells (entC e) 39))); have HM1 := Lib.hid (hm.alloc (.cells (entC e) 39)); have HE1 := Lib.hid (heap_alloc_new w1 (.cells (entC e) 39)); have HL1 := Lib.hid hm; clear hm)
    generalize hW : w1.alloc (.cells (entC e) 39) = W at *
    generalize hp0 : w1.heap.size = p0 at *
    clear hW
    have k2 := blk_cell HB1.out.row 2
    have k3 := blk_cell HB1.out.row 3
    have s4 := blk_cell HE1.out 4
    have HGp := Lib.hid (show g ≠ p0 ∧ ge ≠ p0 ∧ go ≠ p0 by
      have h0 := HE1.out
      refine ⟨?_, ?_, ?_⟩
      · rintro rfl; have a := HB1.out.row; rw [h0] at a; simp at a
      · rintro rfl; obtain ⟨_, _, h1, _⟩ := HB1.out.ents; rw [h1] at h0; cases h0
      · rintro rfl; obtain ⟨_, _, h1, _⟩ := HB1.out.orgs; rw [h1] at h0; cases h0)
    have HPs := Lib.hid (show w.heap.size ≤ p0 by have := HL1.out.size; omega)
    go_region_with (go_at_call 57; refine (HT.out _).mono ?_; rintro x w2 ⟨⟨c2, rfl⟩, hm2⟩; have HB2 := Lib.hid (HB1.out.quiet ((Mod.refl [] W).drew.trans hm2)); have HM2 := Lib.hid (HM1.out.drew.trans hm2); have HE2 := Lib.hid (hm2.row (blk_drew HE1.out) (by simp)); have i2 := blk_cell HB2.out.row 2; have i3 := blk_cell HB2.out.row 3; have f2 := blk_free HB2.out.row 2; have f3 := blk_free HB2.out.row 3; clear hm2)
    all_goals
      have hs3 := HB2.out.setUse tx ty
      have HB3 := Lib.hid hs3.1
      have HM3 := Lib.hid hs3.2
      have HE3 := Lib.hid (hs3.2.row HE2.out (by simp; exact fun h => HGp.out.1 h.symm))
      clear hs3 i2 i3 f2 f3
      generalize (w2.setCell ⟨g, 2, none⟩ (.int .i64 tx)).setCell ⟨g, 3, none⟩ (.int .i64 ty) = w3 at *
      go_wp2_with (first | (refine wpList_store_fld (by rfl) _ _ _ (by rfl) rfl p0 6 39 (entC e) (entC { e with gone := true }) (.bool true) rfl rfl rfl bool_size (by exact (by decide : 6 < 7)) rfl HE3.out ?_; intro w4 hw4 mw4; have HE4 := Lib.hid hw4; have HB4 := Lib.hid (HB3.out.mod mw4 (by simp; exact HGp.out.1) (by simp; exact HGp.out.2.1) (by simp; exact HGp.out.2.2)); have HM4 := Lib.hid mw4; clear hw4 mw4) | (refine wpList_store_fld (by rfl) _ _ _ (by rfl) rfl p0 2 39 (entC { e with gone := true }) (entC { e with gone := true, flags := 0 }) (.int .i64 0) rfl rfl rfl int_size (by exact (by decide : 2 < 7)) rfl HE4.out ?_; intro w5 hw5 mw5; have HE5 := Lib.hid hw5; have HB5 := Lib.hid (HB4.out.mod mw5 (by simp; exact HGp.out.1) (by simp; exact HGp.out.2.1) (by simp; exact HGp.out.2.2)); have HM5 := Lib.hid (HM4.out.trans mw5); clear hw5 mw5))
      obtain ⟨w6, hst, hb6, hm6⟩ := (HB5.out.quiet ((Mod.refl [] w5).drew)).storeE hn hk0 hk1 { e with gone := true, flags := 0 }
      have HB6 := Lib.hid hb6
      have HM6 := Lib.hid hm6
      have hr6 := hm6.row (blk_drew HB5.out.row) (by simp; exact HB5.out.gne.1)
      have he6 := hm6.row (blk_drew HE5.out) (by simp; exact fun h => HGp.out.2.1 h.symm)
      clear hb6 hm6 k2 k3 s4
      have k0 := blk_cell HB5.out.row 0
      have s0 := blk_cell HE5.out 0
      have s1 := blk_cell HE5.out 1
      have s2 := blk_cell HE5.out 2
      have s3 := blk_cell HE5.out 3
      have s4 := blk_cell HE5.out 4
      have s5 := blk_cell HE5.out 5
      have s6 := blk_cell HE5.out 6
      have j0 := blk_cell hr6 0
      have t0 := blk_cell he6 0
      have t1 := blk_cell he6 1
      have t2 := blk_cell he6 2
      have t3 := blk_cell he6 3
      have t4 := blk_cell he6 4
      have t5 := blk_cell he6 5
      have t6 := blk_cell he6 6
      clear hr6 he6
      go_region_held3 (fun W => W.cell? ⟨g, 0, none⟩ = some (.map (some ge)) ∧ W.cell? ⟨p0, 0, none⟩ = some (.int .i64 e.uid) ∧ W.cell? ⟨p0, 1, none⟩ = some (.int .i64 e.time) ∧ W.cell? ⟨p0, 2, none⟩ = some (.int .i64 0) ∧ W.cell? ⟨p0, 3, none⟩ = some (.int .i64 e.body) ∧ W.cell? ⟨p0, 4, none⟩ = some (.int .i64 e.size) ∧ W.cell? ⟨p0, 5, none⟩ = some (.int .i64 e.org) ∧ W.cell? ⟨p0, 6, none⟩ = some (.bool true)) (first | go_keep | (refine ⟨?_, ?_, ?_, ?_, ?_, ?_, ?_, ?_⟩ <;> assumption)) (fail)
      go_wp2_with fail
      go_ret
      exact ⟨rfl, HB6.out.mono (by omega), leave_mod HM2.out HM3.out HM5.out HM6.out HPs.out⟩
end Go.Proofs.YtfcdapicemlfgaaDoor
