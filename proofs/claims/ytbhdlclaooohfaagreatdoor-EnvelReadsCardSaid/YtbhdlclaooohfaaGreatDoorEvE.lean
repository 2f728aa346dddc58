import Derived.Test.YtbhdlclaooohfaaGreatDoorEvC
import Derived.Test.YtbhdlclaooohfaaGreatDoorAdO
import Derived.Maps.OwnSet
import Derived.Maps.OwnOps
/- Envel: goodFrom, goodTargets. -/
namespace Go.Proofs.YtbhdlclaooohfaaGreatDoor
open Go.Maps Go.Shelf Go.Proofs.YtbhdlclaooohfaaGreatDoor.Ad Go.ChangeShapes Go.WideShapes Go.ChangeAt Go.RowKit
set_option linter.unusedVariables false
set_option linter.unusedSimpArgs false

def fromB (l d : ByteArray) : Bool := (l.toList.isEmpty && d.toList.isEmpty) || goodB (nums l) (nums d)
set_option maxHeartbeats 1000000 in
theorem goodFrom_any (l d : ByteArray) (w : World) (hl : l.size ≤ 100000) (hd : d.size ≤ 100000) : Calls Tryz.prog 39 #[.agg (adCs l d)] w (StP (fromB l d) w) := by
  unfold StP
  have hrow := heap_alloc_new w (.cells (adCs l d) 25)
  have k0 := blk_cell hrow 0
  have k1 := blk_cell hrow 1
  clear hrow
  have HM := Lib.hid ((Mod.refl [] w).alloc (.cells (adCs l d) 25))
  have HG := Lib.hid (fun W => good_any l d W hl hd)
  unfold BoolP at HG
  have HR := Lib.hid (show fromB l d = ((l.toList.isEmpty && d.toList.isEmpty) || goodB (nums l) (nums d)) from rfl)
  generalize goodB (nums l) (nums d) = q at *
  by_cases h0 : l.toList = []
  · have e0 : l.toList.isEmpty = true := by rw [h0]; rfl
    by_cases h1 : d.toList = []
    · have e1 : d.toList.isEmpty = true := by rw [h1]; rfl
      rw [e0, e1] at HR
      go_enter Tryz.func39, Tryz.ntmps39
      go_wp2_with fail
      go_ret
      exact ⟨by rw [HR.out]; rfl, HM.out⟩
    · have e1 : d.toList.isEmpty = false := by simpa using h1
      rw [e0, e1] at HR
      go_enter Tryz.func39, Tryz.ntmps39
      go_wp2_with (go_at_call 61; (refine (HG.out _).mono ?_); rintro e w' ⟨rfl, hm⟩; have HM1 := Lib.hid (HM.out.trans (Mod.ofBelow hm)); clear hm)
      go_ret
      exact ⟨by rw [HR.out]; simp, HM1.out⟩
  · have e0 : l.toList.isEmpty = false := by simpa using h0
    rw [e0] at HR
    go_enter Tryz.func39, Tryz.ntmps39
    go_wp2_with (go_at_call 61; (refine (HG.out _).mono ?_); rintro e w' ⟨rfl, hm⟩; have HM1 := Lib.hid (HM.out.trans (Mod.ofBelow hm)); clear hm)
    go_ret
    exact ⟨by rw [HR.out]; simp, HM1.out⟩

/-- block B is a set of the numbers that were seen -/
def SeenI (w : World) (B : Nat) (seen : List Int) (m : Nat) : Prop :=
  ∃ D : DataW Unit, w.ownsMap Tryz.prog 3 unitElem B seen.length D ∧ (∀ n : Int, Go.Maps.has D (.int .i64 n) = decide (n ∈ seen)) ∧ Go.Maps.size D = m ∧ m ≤ seen.length ∧ (m = seen.length ↔ seen.Nodup)
theorem SeenI.mod {F : List Nat} {w w' : World} {B m : Nat} {seen : List Int} (h : SeenI w B seen m) (hm : Mod F w w') (hB : B ∉ F) : SeenI w' B seen m := by
  obtain ⟨D, ⟨es, clock, hb, r⟩, hh⟩ := h
  exact ⟨D, ⟨es, clock, hm.row hb hB, r⟩, hh⟩
theorem SeenI.new (w : World) : SeenI (w.alloc (.map #[] 0)) w.heap.size [] 0 :=
  ⟨.map [], World.ownsMap_made _ _ _ _, fun s => by simp [Go.Maps.has], rfl, Nat.le_refl _, by simp⟩
theorem lawInt : Go.Maps.Keyed Tryz.prog 3 := Go.Maps.int_keyed Tryz.underlying3
theorem zeroUnit (w : World) : (zeroValue 105).run Tryz.prog w = .ok (.agg #[]) w := by kernel_rfl
theorem wf_small {n : Int} (h : 0 ≤ n) (h' : n ≤ 1000000) : (Lit.int .i64 n).wf = true := by
  have h1 : IntKind.i64.min ≤ n := by
    have : IntKind.i64.min = -9223372036854775808 := rfl
    omega
  simp [Lit.wf, h1]
  omega
theorem SeenI.put {w w' : World} {B m : Nat} {seen : List Int} (x : Int) {D : DataW Unit} (h : w.ownsMap Tryz.prog 3 unitElem B seen.length D) (hh : (∀ n : Int, Go.Maps.has D (.int .i64 n) = decide (n ∈ seen)) ∧ Go.Maps.size D = m ∧ m ≤ seen.length ∧ (m = seen.length ↔ seen.Nodup))
    {d : DataW Unit} (h' : w'.ownsMap Tryz.prog 3 unitElem B (seen.length + 1) (D.put (.int .i64 x) d)) : ∃ m', SeenI w' B (seen ++ [x]) m' := by
  obtain ⟨h1, h2, h3, h4⟩ := hh
  have ht := h.tidy lawInt
  refine ⟨if x ∈ seen then m else m + 1, _, (by rw [List.length_append]; exact h'), ?_, ?_, ?_, ?_⟩
  · intro n
    by_cases e : n = x
    · subst e
      rw [Go.Maps.has_put_same (k := .int .i64 n) h.isMap trivial]
      simp
    · have hne : Lit.int .i64 n ≠ Lit.int .i64 x := by
        intro h
        injection h with h h'
        exact e h'
      rw [Go.Maps.has_put_other hne, h1 n]
      simp [e]
  · rw [Go.Maps.size_put (k := .int .i64 x) ht, h1 x, h2]
    by_cases e : x ∈ seen <;> simp [e]
  · split <;> simp <;> omega
  · by_cases e : x ∈ seen
    · rw [if_pos e, List.length_append]
      constructor
      · intro h; simp at h; omega
      · intro h
        rw [List.nodup_append] at h
        exact absurd rfl (h.2.2 x e x (by simp))
    · rw [if_neg e, List.length_append, List.length_singleton]
      constructor
      · intro h
        have := h4.1 (by omega)
        rw [List.nodup_append]
        refine ⟨this, by simp, ?_⟩
        intro a ha b hb
        simp at hb
        subst hb
        intro he
        exact e (he ▸ ha)
      · intro h
        rw [List.nodup_append] at h
        have := h4.2 h.1
        omega

def tgB (t : Tg) : Bool := btB t.user 1 999 && goodB (nums t.l) (nums t.d)
def usersL (xs : List Tg) : List Int := xs.map (·.user)
def tgsB (xs : List Tg) : Bool := btB xs.length 1 20 && (xs.all tgB && decide (usersL xs).Nodup)
theorem usersL_succ {xs : List Tg} {k : Nat} (hk : k < xs.length) : usersL (xs.take (k + 1)) = usersL (xs.take k) ++ [xs[k].user] := by
  unfold usersL
  rw [List.take_succ_eq_append_getElem hk, List.map_append]; rfl
theorem usersL_take_len {xs : List Tg} {k : Nat} (hk : k ≤ xs.length) : (usersL (xs.take k)).length = k := by simp [usersL]; omega
theorem all_no {p : Tg → Bool} {xs : List Tg} {k : Nat} (hk : k < xs.length) (hb : p xs[k] = false) : xs.all p = false := by
  rw [Bool.eq_false_iff]
  intro h
  have := List.all_eq_true.1 h xs[k] (List.getElem_mem hk)
  rw [hb] at this; cases this
theorem all_step {p : Tg → Bool} {xs : List Tg} {k : Nat} (h : (xs.take k).all p = true) (hk : k < xs.length) (hb : p xs[k] = true) : (xs.take (k + 1)).all p = true := by
  rw [List.take_succ_eq_append_getElem hk, List.all_append, h]; simp [hb]
def SmallT (xs : List Tg) : Prop := ∀ t ∈ xs, t.l.size ≤ 100000 ∧ t.d.size ≤ 100000
set_option maxRecDepth 100000 in
set_option maxHeartbeats 2000000 in
theorem goodTargets_any (w : World) (a : Option Addr) (n cap : Nat) (xs : List Tg) (h : CellsT w a xs) (hn : n = xs.length) (hl : n ≤ 1000000) (hs : SmallT xs) :
    Calls Tryz.prog 40 #[.slice a n cap] w (StP (tgsB xs) w) := by
  unfold StP
  have H := Lib.hid h
  have HN := Lib.hid hn
  have HS := Lib.hid hs
  clear h hs
  have HB := Lib.hid (between_any n 1 20)
  cases hq : btB n 1 20
  · have HR := Lib.hid (show tgsB xs = false by unfold tgsB; rw [← hn, hq]; rfl)
    rw [hq] at HB
    clear hq hn
    go_enter Tryz.func40, Tryz.ntmps40
    go_wp2_with (go_at_call 30; (refine (HB.out _).mono ?_); rintro e w' ⟨rfl, rfl⟩)
    go_ret
    exact ⟨by rw [HR.out]; rfl, Mod.refl _ _⟩
  rw [hq] at HB
  have h20 := btB_iff.1 hq
  have HR := Lib.hid (show tgsB xs = (xs.all tgB && decide (usersL xs).Nodup) by unfold tgsB; rw [← hn, hq]; rfl)
  have HM0 := Lib.hid ((Mod.refl [] w).alloc (.map #[] 0))
  have HS0 := Lib.hid (SeenI.new w)
  have hmm := @run_makeMap Tryz.prog
  obtain ⟨B, hB⟩ : ∃ B, w.heap.size = B := ⟨_, rfl⟩
  have HBs := Lib.hid hB
  rw [hB] at HS0
  clear hq hn
  go_enter Tryz.func40, Tryz.ntmps40
  go_wp2_with (go_at_call 30; (refine (HB.out _).mono ?_); rintro e w' ⟨rfl, rfl⟩)
  clear hB hmm
  go_loopw [13] (fun v wr => ∃ (k m : Nat), v = .int .i64 k ∧ k ≤ n ∧ (xs.take k).all tgB = true ∧ SeenI wr B (usersL (xs.take k)) m ∧ Mod [] w wr) (fun v _ => n - (intOf v).toNat)
  case atStart => exact ⟨0, 0, rfl, Nat.zero_le _, by simp, HS0.out, HM0.out⟩
  case round =>
    obtain ⟨k, m, rfl, hk, hall, hse, hm⟩ := hrel
    have HAll := Lib.hid hall
    have HM := Lib.hid hm
    have HSe := Lib.hid hse
    clear hall hm hse
    by_cases hlt : k < n
    · have hkf : k < xs.length := by rw [← HN.out]; exact hlt
      obtain ⟨b, o, rfl, -⟩ := H.out.addr tgC_size (by decide) (by omega)
      obtain ⟨k0, k1, k2⟩ := CellsT.row (H.out.quiet tgC_size HM.out) k hkf
      have hix := ixa (P := Tryz.prog) 26 39 Tryz.underlying26 3 sizeTg _ b o n cap k rfl hlt
      obtain ⟨x, hx⟩ : ∃ x, xs[k] = x := ⟨_, rfl⟩
      have hxs := HS.out x (by rw [← hx]; exact List.getElem_mem hkf)
      rw [hx] at k0 k1 k2
      have HU := Lib.hid (usersL_succ hkf)
      have HUl := Lib.hid (usersL_take_len (Nat.le_of_lt hkf))
      have HStep := Lib.hid (fun hb : tgB x = true => all_step HAll.out hkf (by rw [hx]; exact hb))
      have HNo := Lib.hid (fun hb : tgB x = false => all_no (p := tgB) hkf (by rw [hx]; exact hb))
      rw [hx] at HU
      clear hx hkf
      have HT := Lib.hid (show tgB x = (btB x.user 1 999 && goodB (nums x.l) (nums x.d)) from rfl)
      have HMa := Lib.hid (HM.out.alloc (.cells (tgC x) 39))
      have HSa := Lib.hid (HSe.out.mod ((Mod.refl [] wr).alloc (.cells (tgC x) 39)) (by simp))
      have HC := Lib.hid (between_any x.user 1 999)
      have HG := Lib.hid (fun W => good_any x.l x.d W hxs.1 hxs.2)
      unfold BoolP at HG
      cases hq1 : btB x.user 1 999
      · rw [hq1] at HC HT
        have HNo2 := Lib.hid (HNo.out (by rw [HT.out]; rfl))
        clear hq1
        go_wp2_with (first | (go_at_call 30; (refine (HC.out _).mono ?_); rintro e w' ⟨rfl, rfl⟩))
        go_ret
        exact ⟨by rw [HR.out, HNo2.out]; rfl, HMa.out⟩
      · rw [hq1] at HC HT
        have hu := btB_iff.1 hq1
        have HKey := Lib.hid (Go.Maps.keyOf_int_mk Tryz.underlying3 (wf_small (n := x.user) (by omega) (by omega)))
        clear hq1
        cases hq2 : goodB (nums x.l) (nums x.d)
        · rw [hq2] at HG HT
          have HNo2 := Lib.hid (HNo.out (by rw [HT.out]; rfl))
          clear hq2
          go_wp2_with (first | (go_at_call 30; (refine (HC.out _).mono ?_); rintro e w' ⟨rfl, rfl⟩) | (go_at_call 61; (refine (HG.out _).mono ?_); rintro e w' ⟨rfl, hm⟩; have HM1 := Lib.hid (HMa.out.trans (Mod.ofBelow hm)); clear hm))
          go_ret
          exact ⟨by rw [HR.out, HNo2.out]; rfl, HM1.out⟩
        · rw [hq2] at HG HT
          have HAll2 := Lib.hid (HStep.out (by rw [HT.out]; rfl))
          clear hq2
          have hN := heap_alloc_new wr (.cells (tgC x) 39)
          have HRow := Lib.hid hN
          clear hN
          go_wp2_with (first | (go_at_call 30; (refine (HC.out _).mono ?_); rintro e w' ⟨rfl, rfl⟩) | (go_at_call 61; (refine (HG.out _).mono ?_); rintro e w' ⟨rfl, hm⟩; have HM1 := Lib.hid (HMa.out.trans (Mod.ofBelow hm)); have hs1 := HSa.out.mod (Mod.ofBelow hm) (by simp); have hrow := (Mod.ofBelow hm).row HRow.out (by simp); have j0 := blk_cell hrow 0; clear hrow hm; obtain ⟨D, hO, hH⟩ := hs1; have HO := Lib.hid hO; have HHs := Lib.hid hH; clear hO hH) | (at_mapUpdate; refine wpList_mapUpdate_in _ rfl _ _ _ 104 rfl 3 105 lawInt Tryz.underlying104 unitElem B _ D rfl HO.out (by rw [HUl.out]; unfold maxLen; omega) _ _ _ rfl rfl HKey.out _ [] unitElem_mk ?_; intro w5 hown5 hgrow5; have HO5 := Lib.hid hown5; have HM5 := Lib.hid (HM1.out.trans' (Mod.ofGrown hgrow5.grown) (by simp [HBs.out])); clear hown5 hgrow5))
          go_roundw
          case rel =>
            obtain ⟨m', hm'⟩ := SeenI.put x.user HO.out HHs.out HO5.out
            rw [← HU.out] at hm'
            exact ⟨k + 1, m', by go_num, by omega, HAll2.out, hm', HM5.out⟩
          case measure => simp [intOf]; omega
    · have hkl : k = n := by omega
      have HAl := Lib.hid (show xs.all tgB = true by
        have := HAll.out
        rwa [hkl, HN.out, List.take_length] at this)
      rw [hkl, HN.out, List.take_length] at HSe
      obtain ⟨D, hO, hH⟩ := HSe.out
      have HO := Lib.hid hO
      have HHs := Lib.hid hH
      have hlen : (usersL xs).length = n := by simp [usersL, HN.out]
      have HQ := Lib.hid (show (((Go.Maps.size D : Nat) : Int) == (n : Int)) = decide (usersL xs).Nodup by
        obtain ⟨_, h2, h3, h4⟩ := hH
        rw [h2]
        rw [hlen] at h4
        rw [Bool.eq_iff_iff]
        simp
        rw [← h4]; omega)
      clear hk hO hH hlen
      go_wp2_with (at_len; refine wpList_len_own _ rfl _ _ rfl 3 105 Tryz.underlying104 unitElem B _ D rfl HO.out ?_)
      go_ret
      exact ⟨by rw [HR.out, HAl.out, HQ.out]; rfl, HM.out⟩
end Go.Proofs.YtbhdlclaooohfaaGreatDoor

/- Envel: Good. Written by tools/mkevgood.py. -/
namespace Go.Proofs.YtbhdlclaooohfaaGreatDoor
open Go.Maps Go.Shelf Go.Proofs.YtbhdlclaooohfaaGreatDoor.Ad Go.ChangeShapes Go.WideShapes Go.ChangeAt Go.RowKit
set_option linter.unusedVariables false
set_option linter.unusedSimpArgs false

def goodJ (j : Jb) : Bool := btB j.id 1 1099511627776 && (btB j.arr 0 4503599627370496 && (fromB j.fl j.fd && (tgsB j.to && (decide ((j.sts.length : Int) = (j.to.length : Int)) && (!(j.sts.any fun s => !stB s) && decide ((j.body.length : Int) ≤ 32768))))))
theorem goodJ_eq (j : Jb) : goodJ j = (btB j.id 1 1099511627776 && (btB j.arr 0 4503599627370496 && (fromB j.fl j.fd && (tgsB j.to && (decide ((j.sts.length : Int) = (j.to.length : Int)) && (!(j.sts.any fun s => !stB s) && decide ((j.body.length : Int) ≤ 32768))))))) := rfl
structure SmallJ (j : Jb) : Prop where
  fl : j.fl.size ≤ 100000
  fd : j.fd.size ≤ 100000
  to : SmallT j.to
  tn : j.to.length ≤ 1000000
  sn : j.sts.length ≤ 1000000
set_option maxRecDepth 100000 in
set_option maxHeartbeats 4000000 in
theorem good_job (w : World) (j : Jb) (p : JA) (h : JobAt w j p) (hs : SmallJ j) : Calls Tryz.prog 16 #[.agg (jbC j p)] w (StP (goodJ j) w) := by
  unfold StP
  have hrow := heap_alloc_new w (.cells (jbC j p) 29)
  have k0 := blk_cell hrow 0
  have k1 := blk_cell hrow 1
  have k2 := blk_cell hrow 2
  have k3 := blk_cell hrow 3
  have k4 := blk_cell hrow 4
  have k5 := blk_cell hrow 5
  have k6 := blk_cell hrow 6
  have HRow := Lib.hid hrow
  clear hrow
  have HM := Lib.hid ((Mod.refl [] w).alloc (.cells (jbC j p) 29))
  have HR := Lib.hid (goodJ_eq j)
  have HJ := Lib.hid h
  have HS := Lib.hid hs
  clear h hs
  have HF := Lib.hid (fun W => goodFrom_any j.fl j.fd W HS.out.fl HS.out.fd)
  have HT := Lib.hid (fun W (hm : Mod [] w W) => goodTargets_any W p.ta j.to.length p.tc j.to (HJ.out.quiet hm).to rfl HS.out.tn HS.out.to)
  have HC := Lib.hid (fun W (hm : Mod [] w W) => containsFunc_any _ _ enters_good1 goodState1_any W p.sa j.sts.length p.sc j.sts (HJ.out.quiet hm).sts rfl HS.out.sn)
  unfold StP at HF HT HC
  cases h0 : btB j.id 1 1099511627776
  · skip
    have B0 := Lib.hid (between_is h0)
    rw [h0] at HR
    skip
    clear h0
    go_enter Tryz.func16, Tryz.ntmps16
    go_wp2_with (first | (go_at_call 30; refine (B0.out _).mono ?_; rintro e w' ⟨rfl, rfl⟩))
    go_ret
    exact ⟨by rw [HR.out]; rfl, HM.out⟩
  have B0 := Lib.hid (between_is h0)
  cases h1 : btB j.arr 0 4503599627370496
  · skip
    have B1 := Lib.hid (between_is h1)
    rw [h0, h1] at HR
    skip
    clear h0 h1
    go_enter Tryz.func16, Tryz.ntmps16
    go_wp2_with (first | (go_at_call 30; first | ((with_reducible refine (B0.out _).mono ?_); rintro e w' ⟨rfl, rfl⟩) | ((with_reducible refine (B1.out _).mono ?_); rintro e w' ⟨rfl, rfl⟩)))
    go_ret
    exact ⟨by rw [HR.out]; rfl, HM.out⟩
  have B1 := Lib.hid (between_is h1)
  cases h2 : fromB j.fl j.fd
  · skip
    rw [h2] at HF
    rw [h0, h1, h2] at HR
    skip
    clear h0 h1 h2
    go_enter Tryz.func16, Tryz.ntmps16
    go_wp2_with (first | (go_at_call 30; first | ((with_reducible refine (B0.out _).mono ?_); rintro e w' ⟨rfl, rfl⟩) | ((with_reducible refine (B1.out _).mono ?_); rintro e w' ⟨rfl, rfl⟩)) | (go_at_call 39; refine (HF.out _).mono ?_; rintro e w1 ⟨rfl, hm⟩; have HM1 := Lib.hid (HM.out.trans hm); have hr := hm.row HRow.out (by simp); have HRow1 := Lib.hid hr; have a4 := blk_cell hr 4; have a5 := blk_cell hr 5; have a6 := blk_cell hr 6; clear hr hm))
    go_ret
    exact ⟨by rw [HR.out]; rfl, HM1.out⟩
  rw [h2] at HF
  cases h3 : tgsB j.to
  · skip
    rw [h3] at HT
    rw [h0, h1, h2, h3] at HR
    skip
    clear h0 h1 h2 h3
    go_enter Tryz.func16, Tryz.ntmps16
    go_wp2_with (first | (go_at_call 30; first | ((with_reducible refine (B0.out _).mono ?_); rintro e w' ⟨rfl, rfl⟩) | ((with_reducible refine (B1.out _).mono ?_); rintro e w' ⟨rfl, rfl⟩)) | (go_at_call 39; refine (HF.out _).mono ?_; rintro e w1 ⟨rfl, hm⟩; have HM1 := Lib.hid (HM.out.trans hm); have hr := hm.row HRow.out (by simp); have HRow1 := Lib.hid hr; have a4 := blk_cell hr 4; have a5 := blk_cell hr 5; have a6 := blk_cell hr 6; clear hr hm) | (go_at_call 40; refine (HT.out _ HM1.out).mono ?_; rintro e w2 ⟨rfl, hm⟩; have HM2 := Lib.hid (HM1.out.trans hm); have hr := hm.row HRow1.out (by simp); have HRow2 := Lib.hid hr; have b4 := blk_cell hr 4; have b5 := blk_cell hr 5; have b6 := blk_cell hr 6; clear hr hm))
    go_ret
    exact ⟨by rw [HR.out]; rfl, HM2.out⟩
  rw [h3] at HT
  cases h4 : decide ((j.sts.length : Int) = (j.to.length : Int))
  · skip
    have q4 : ((j.sts.length : Int) == (j.to.length : Int)) = false := by rw [← h4]; exact (Bool.beq_eq_decide_eq _ _)
    rw [h0, h1, h2, h3, h4] at HR
    skip
    clear h0 h1 h2 h3 h4
    go_enter Tryz.func16, Tryz.ntmps16
    go_wp2_with (first | (go_at_call 30; first | ((with_reducible refine (B0.out _).mono ?_); rintro e w' ⟨rfl, rfl⟩) | ((with_reducible refine (B1.out _).mono ?_); rintro e w' ⟨rfl, rfl⟩)) | (go_at_call 39; refine (HF.out _).mono ?_; rintro e w1 ⟨rfl, hm⟩; have HM1 := Lib.hid (HM.out.trans hm); have hr := hm.row HRow.out (by simp); have HRow1 := Lib.hid hr; have a4 := blk_cell hr 4; have a5 := blk_cell hr 5; have a6 := blk_cell hr 6; clear hr hm) | (go_at_call 40; refine (HT.out _ HM1.out).mono ?_; rintro e w2 ⟨rfl, hm⟩; have HM2 := Lib.hid (HM1.out.trans hm); have hr := hm.row HRow1.out (by simp); have HRow2 := Lib.hid hr; have b4 := blk_cell hr 4; have b5 := blk_cell hr 5; have b6 := blk_cell hr 6; clear hr hm))
    go_ret
    exact ⟨by rw [HR.out]; rfl, HM2.out⟩
  have q4 : ((j.sts.length : Int) == (j.to.length : Int)) = true := by rw [← h4]; exact (Bool.beq_eq_decide_eq _ _)
  cases h5 : (j.sts.any fun s => !stB s)
  case true =>
    rw [h5] at HC
    rw [h0, h1, h2, h3, h4, h5] at HR
    skip
    clear h0 h1 h2 h3 h4 h5
    go_enter Tryz.func16, Tryz.ntmps16
    go_wp2_with (first | (go_at_call 30; first | ((with_reducible refine (B0.out _).mono ?_); rintro e w' ⟨rfl, rfl⟩) | ((with_reducible refine (B1.out _).mono ?_); rintro e w' ⟨rfl, rfl⟩)) | (go_at_call 39; refine (HF.out _).mono ?_; rintro e w1 ⟨rfl, hm⟩; have HM1 := Lib.hid (HM.out.trans hm); have hr := hm.row HRow.out (by simp); have HRow1 := Lib.hid hr; have a4 := blk_cell hr 4; have a5 := blk_cell hr 5; have a6 := blk_cell hr 6; clear hr hm) | (go_at_call 40; refine (HT.out _ HM1.out).mono ?_; rintro e w2 ⟨rfl, hm⟩; have HM2 := Lib.hid (HM1.out.trans hm); have hr := hm.row HRow1.out (by simp); have HRow2 := Lib.hid hr; have b4 := blk_cell hr 4; have b5 := blk_cell hr 5; have b6 := blk_cell hr 6; clear hr hm) | (go_at_call 32; refine (HC.out _ HM2.out).mono ?_; rintro e w3 ⟨rfl, hm⟩; have HM3 := Lib.hid (HM2.out.trans hm); have hr := hm.row HRow2.out (by simp); have c6 := blk_cell hr 6; clear hr hm))
    go_ret
    exact ⟨by rw [HR.out]; rfl, HM3.out⟩
  rw [h5] at HC
  cases h6 : decide ((j.body.length : Int) ≤ 32768)
  · skip
    rw [h0, h1, h2, h3, h4, h5, h6] at HR
    skip
    have q6 := h6
    clear h0 h1 h2 h3 h4 h5 h6
    go_enter Tryz.func16, Tryz.ntmps16
    go_wp2_with (first | (go_at_call 30; first | ((with_reducible refine (B0.out _).mono ?_); rintro e w' ⟨rfl, rfl⟩) | ((with_reducible refine (B1.out _).mono ?_); rintro e w' ⟨rfl, rfl⟩)) | (go_at_call 39; refine (HF.out _).mono ?_; rintro e w1 ⟨rfl, hm⟩; have HM1 := Lib.hid (HM.out.trans hm); have hr := hm.row HRow.out (by simp); have HRow1 := Lib.hid hr; have a4 := blk_cell hr 4; have a5 := blk_cell hr 5; have a6 := blk_cell hr 6; clear hr hm) | (go_at_call 40; refine (HT.out _ HM1.out).mono ?_; rintro e w2 ⟨rfl, hm⟩; have HM2 := Lib.hid (HM1.out.trans hm); have hr := hm.row HRow1.out (by simp); have HRow2 := Lib.hid hr; have b4 := blk_cell hr 4; have b5 := blk_cell hr 5; have b6 := blk_cell hr 6; clear hr hm) | (go_at_call 32; refine (HC.out _ HM2.out).mono ?_; rintro e w3 ⟨rfl, hm⟩; have HM3 := Lib.hid (HM2.out.trans hm); have hr := hm.row HRow2.out (by simp); have c6 := blk_cell hr 6; clear hr hm))
    go_ret
    exact ⟨by rw [HR.out]; rfl, HM3.out⟩
  · skip
    rw [h0, h1, h2, h3, h4, h5, h6] at HR
    skip
    have q6 := h6
    clear h0 h1 h2 h3 h4 h5 h6
    go_enter Tryz.func16, Tryz.ntmps16
    go_wp2_with (first | (go_at_call 30; first | ((with_reducible refine (B0.out _).mono ?_); rintro e w' ⟨rfl, rfl⟩) | ((with_reducible refine (B1.out _).mono ?_); rintro e w' ⟨rfl, rfl⟩)) | (go_at_call 39; refine (HF.out _).mono ?_; rintro e w1 ⟨rfl, hm⟩; have HM1 := Lib.hid (HM.out.trans hm); have hr := hm.row HRow.out (by simp); have HRow1 := Lib.hid hr; have a4 := blk_cell hr 4; have a5 := blk_cell hr 5; have a6 := blk_cell hr 6; clear hr hm) | (go_at_call 40; refine (HT.out _ HM1.out).mono ?_; rintro e w2 ⟨rfl, hm⟩; have HM2 := Lib.hid (HM1.out.trans hm); have hr := hm.row HRow1.out (by simp); have HRow2 := Lib.hid hr; have b4 := blk_cell hr 4; have b5 := blk_cell hr 5; have b6 := blk_cell hr 6; clear hr hm) | (go_at_call 32; refine (HC.out _ HM2.out).mono ?_; rintro e w3 ⟨rfl, hm⟩; have HM3 := Lib.hid (HM2.out.trans hm); have hr := hm.row HRow2.out (by simp); have c6 := blk_cell hr 6; clear hr hm))
    go_ret
    exact ⟨by rw [HR.out]; rfl, HM3.out⟩
end Go.Proofs.YtbhdlclaooohfaaGreatDoor

