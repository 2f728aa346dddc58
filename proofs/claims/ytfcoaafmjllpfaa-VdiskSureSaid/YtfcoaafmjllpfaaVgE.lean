/- The disk: keepTurns. -/
import Derived.Test.YtfcoaafmjllpfaaVgD
namespace Go.Proofs.Ytfcoaafmjllpfaa
open Go.Shelf Go.ChangeShapes Go.WideShapes Go.ChangeAt Go.RowKit
set_option linter.unusedVariables false
set_option linter.unusedSimpArgs false

theorem tuCells_get : ∀ {ts : List TurnM} {k : Nat} (h : k < ts.length), (tuCells ts)[k * 3]? = some (.string ts[k].fr) ∧ (tuCells ts)[k * 3 + 1]? = some (.string ts[k].to_) ∧ (tuCells ts)[k * 3 + 2]? = some ts[k].p
  | t :: r, 0, _ => ⟨rfl, rfl, rfl⟩
  | t :: r, k + 1, h => by
    have e : tuCells (t :: r) = .string t.fr :: .string t.to_ :: t.p :: tuCells r := rfl
    rw [e, show (k + 1) * 3 = k * 3 + 3 by omega]
    exact tuCells_get (ts := r) (k := k) (by simpa using h)
/-- a row of names, of no more than there are -/
theorem Names.tight {w : World} {g n : Nat} {L : NmL} (h : Names w g n L) : Names w g L.length L := by
  obtain ⟨es, clock, hb, Ft, hs, hD⟩ := h
  refine ⟨es, clock, hb, Ft, ?_, hD⟩
  unfold mD at hD
  simp only [DataW.map.injEq] at hD
  have h2 : L.length = es.toList.length := by simpa [length_sorted] using congrArg List.length hD
  have h3 : es.toList.length = es.size := Array.length_toList
  omega
/-- the files that have names -/
def keepPs (ps : List Nat) (S : NmL) : List Nat := ps.filter fun b => S.any fun p => p.2 == b
/-- behind keepTurns -/
def keepS (x : DSt) (k : Nat) : DSt := { x with L := turnsL x.S (x.ts.take k), S := turnsL x.S (x.ts.take k), ts := [], ps := keepPs x.ps (turnsL x.S (x.ts.take k)) }
theorem mem_keepPs {ps : List Nat} {S : NmL} {b : Nat} : b ∈ keepPs ps S ↔ b ∈ ps ∧ b ∈ S.map (·.2) := by
  unfold keepPs
  simp [List.mem_filter, List.any_eq_true]
theorem keepPs_perm {ps : List Nat} {S : NmL} (hd : ps.Nodup) (h1 : OneNm S) (hin : ∀ q ∈ S, q.2 ∈ ps) : (keepPs ps S).Perm (S.map (·.2)) := by
  refine (List.perm_ext_iff_of_nodup (hd.sublist List.filter_sublist) ?_).2 fun b => ?_
  · exact List.pairwise_map.2 h1
  · show b ∈ keepPs ps S ↔ _
    rw [mem_keepPs]
    refine ⟨fun h => h.2, fun h => ⟨?_, h⟩⟩
    obtain ⟨q, hq, rfl⟩ := List.mem_map.1 h
    exact hin q hq
/-- files that were made one behind the other -/
abbrev Made (F : Nat → FileD) (ps : List Nat) : Prop := ps.Pairwise fun a b => (F a).made < (F b).made
theorem Made.inj {F : Nat → FileD} {ps : List Nat} (h : Made F ps) : ∀ a ∈ ps, ∀ b ∈ ps, (F a).made = (F b).made → a = b := by
  intro a ha b hb he
  induction ps with
  | nil => cases ha
  | cons c r ih =>
    have h' := List.pairwise_cons.1 h
    rcases List.mem_cons.1 ha with rfl | ha1
    · rcases List.mem_cons.1 hb with rfl | hb1
      · rfl
      · have := h'.1 b hb1; omega
    · rcases List.mem_cons.1 hb with rfl | hb1
      · have := h'.1 a ha1; omega
      · exact ih h'.2 ha1 hb1
theorem sorted_keep {F : Nat → FileD} {ps ys : List Nat} {S : NmL} (hM : Made F ps) (hd : ps.Nodup) (h1 : OneNm S) (hin : ∀ q ∈ S, q.2 ∈ ps) (hp : ys.Perm (S.map (·.2))) (hw : ys.Pairwise fun a b => (F a).made ≤ (F b).made) : ys = keepPs ps S := by
  have hp2 := hp.trans (keepPs_perm hd h1 hin).symm
  refine List.Perm.eq_of_pairwise (le := fun a b => (F a).made ≤ (F b).made) ?_ hw ?_ hp2
  · intro a b ha hb h1 h2
    refine hM.inj a (mem_keepPs.1 (hp2.mem_iff.1 ha)).1 b (mem_keepPs.1 hb).1 (by omega)
  · exact (List.Pairwise.sublist List.filter_sublist hM).imp fun h => Int.le_of_lt h
theorem findB_of_mem {L : NmL} (h : KeysNe L) {q : List UInt8 × Nat} (hq : q ∈ L) : findB L q.1 = some q.2 := findB_mem h q hq
theorem findB_in {L : NmL} {k : List UInt8} {b : Nat} (h : findB L k = some b) : b ∈ L.map (·.2) := by
  unfold findB at h
  rw [Option.map_eq_some_iff] at h
  obtain ⟨q, hq, rfl⟩ := h
  exact List.mem_map.2 ⟨q, List.mem_of_find?_eq_some hq, rfl⟩
theorem owns_low {w : World} {B : Nat} {e : TypeId} {size : Nat} {v : Value} {n : Nat} {xs : List Value} (h : w.ownsRow B e size v n xs) : w.ownsRow 0 e size v n xs := by
  refine ⟨h.1, ?_⟩
  rcases h.2 with h1 | ⟨g, cap, cur, hv, hb, rest⟩
  · exact .inl h1
  · exact .inr ⟨g, cap, cur, hv, Nat.zero_le _, rest⟩
/-- so far -/
structure KtI (w wr : World) (g : Nat) (p : DPl) (x : DSt) (i : Nat) : Prop where
  disk : DAt wr g p.nm p.su p.tu p.kn p.n1 (p.n2 + i) { x with S := turnsL x.S (x.ts.take i) } p.V
  mod : Mod [p.su] w wr
/-- turns whose names are of some length, and whose files are known -/
def TsOk (x : DSt) : Prop := ∀ t ∈ x.ts, t.fr.size ≤ maxLen ∧ t.to_.size ≤ maxLen ∧ (t.to_.size ≠ 0 → t.p = fptr t.blk ∧ t.blk ∈ x.ps)
set_option maxRecDepth 100000 in
set_option maxHeartbeats 4000000 in
theorem keepTurns_any (w : World) (g : Nat) (p : DPl) (x : DSt) (h : DOk w g p x) (k : Nat) (hk : k ≤ x.ts.length) (hn : p.n2 + k < maxLen) (hts : x.ts.length ≤ 1000000000) (hT : TsOk x) (h1 : OneNm (turnsL x.S (x.ts.take k))) (hM : Made x.F x.ps) (hL : (turnsL x.S (x.ts.take k)).length ≤ 1000000000) :
    Calls Try.prog 31 #[.pointer (some ⟨g, 0, none⟩), .int .i64 k] w fun e w' => e = .returned (.tuple #[]) ∧ ∃ p', DOk w' g p' (keepS x k) ∧ (∀ q ∈ p'.all g (keepS x k).ps, q ∈ p.all g x.ps ∨ w.heap.size ≤ q) ∧ Mod (p.all g x.ps) w w' := by
  obtain ⟨atu, ctu, htu, hlc, -⟩ := owns_shape h.turns
  have k3 : w.cell? ⟨g, 3, none⟩ = some (.slice atu x.ts.length ctu) := by rw [← htu]; exact blk_cell h.row 3
  have hcap : (k : Int) ≤ (ctu : Int) := by
    have ht := h.turns
    rw [htu] at ht
    rcases ht.2 with ⟨_, hz⟩ | ⟨g2, c2, cur, hv, _, _, hn2, _⟩
    · omega
    · simp only [Value.slice.injEq] at hv
      omega
  have HH := Lib.hid h
  have HTu := Lib.hid htu
  have HT := Lib.hid hT
  have H1 := Lib.hid h1
  have HMd := Lib.hid hM
  have HL := Lib.hid hL
  have HN := Lib.hid hn
  clear h htu hT h1 hM hL hn
  go_enter Try.func31, Try.ntmps31
  go_wp2_with fail
  clear k3
  go_loopw [13] (fun i wr => ∃ (n : Nat), i = .int .i64 n ∧ n ≤ k ∧ KtI w wr g p x n) (fun i _ => (k - intOf i).toNat)
  case atStart => exact ⟨0, rfl, Nat.zero_le _, by simpa [turnsL] using HH.out, Mod.refl _ _⟩
  case round =>
    obtain ⟨n, rfl, hnk, hI⟩ := hrel
    have HI := Lib.hid hI
    clear hI
    by_cases hlt : n < k
    · have hlt2 : n < x.ts.length := by omega
      have htn : Turns wr p.tu x.ts := HI.out.disk.turns
      rw [HTu.out] at htn
      obtain ⟨gw, hgw⟩ : ∃ gw, atu = some ⟨gw, 0, none⟩ := by
        rcases htn.2 with ⟨_, hz⟩ | ⟨g, c, _, hv, _⟩
        · omega
        · exact ⟨g, by simp only [Value.slice.injEq] at hv; exact hv.1⟩
      subst hgw
      have j0 := htn.cellAt (n * 3) (by omega)
      have j1 := htn.cellAt (n * 3 + 1) (by omega)
      have j2 := htn.cellAt (n * 3 + 2) (by omega)
      rw [(tuCells_get hlt2).1] at j0
      rw [(tuCells_get hlt2).2.1] at j1
      rw [(tuCells_get hlt2).2.2] at j2
      have hok := HT.out (x.ts[n]'hlt2) (List.getElem_mem hlt2)
      have hsucc := turnsL_succ x.S x.ts n hlt2
      have hdisk := HI.out.disk
      have hpc : ∃ q, (x.ts[n]'hlt2).p = .pointer q := by
        rcases hdisk.inT _ (List.getElem_mem hlt2) with e | ⟨b, _, e⟩
        · exact ⟨_, e⟩
        · exact ⟨_, e⟩
      generalize x.ts[n]'hlt2 = m at *
      generalize hst0 : turnsL x.S (x.ts.take n) = Sn at *
      have HSu := Lib.hid hsucc
      have HOk := Lib.hid hok
      have HSt0 := Lib.hid hst0
      generalize hbk : m.blk = mb at *
      obtain ⟨fr, to_, pv⟩ := m
      obtain ⟨pq, rfl⟩ := hpc
      simp only at j0 j1 j2 HOk HSu
      have hma : Mod [] wr (wr.alloc (.cells (turnC fr to_ (.pointer pq)) 68)) := (Mod.refl [] wr).alloc _
      have HMa := Lib.hid hma
      have HB0 := Lib.hid (heap_alloc_new wr (.cells (turnC fr to_ (.pointer pq)) 68))
      have hnms : Names wr p.su (p.n2 + n) Sn := hdisk.sure
      have HD := Lib.hid (fun (W : World) (hm : Mod [] wr W) => turnDo_any W p.su (p.n2 + n) Sn (hnms.mod hm (by simp)) (by have := HN.out; omega) fr to_ HOk.out.1 HOk.out.2.1 (.pointer pq) mb (fun hz => (HOk.out.2.2 hz).1))
      have k2 : wr.cell? ⟨g, 2, none⟩ = some (.map (some p.su)) := blk_cell hdisk.row 2
      have hgl := blk_lt hdisk.row
      have k2a : (wr.alloc (.cells (turnC fr to_ (.pointer pq)) 68)).cell? ⟨g, 2, none⟩ = some (.map (some p.su)) := blk_cell (hma.row hdisk.row (by simp)) 2
      clear htn hok hsucc hdisk hst0 hma hnms hbk
      go_wp2_with fail
      clear j0 j1 j2 k2
      generalize hW : wr.alloc (.cells (turnC fr to_ (.pointer pq)) 68) = W at *
      have j0 := blk_cell HB0.out 0
      have j1 := blk_cell HB0.out 1
      have j2 := blk_cell HB0.out 2
      go_region_with (first
        | (go_at_call 54; refine (HD.out _ ((HMa.out).drew)).mono ?_; rintro e w3 ⟨rfl, hn3, hm3⟩; have HN3 := Lib.hid hn3; have HM3 := Lib.hid hm3; clear hn3 hm3))
      all_goals
        clear k2a j0 j1 j2
        go_wp2_with fail
        have hmw : Mod [p.su] wr w3 := (HMa.out.drew.mono (by simp)).trans HM3.out
        have hnx : Names w3 p.su (p.n2 + (n + 1)) (turnsL x.S (x.ts.take (n + 1))) := by rw [HSu.out]; exact HN3.out
        have hdk := HI.out.disk.setSure hmw hnx (fun k' c hc => by
          rw [HSu.out] at hc
          rcases findB_turn hc with ⟨hz, rfl⟩ | h2
          · exact (HOk.out.2.2 hz).2
          · exact HI.out.disk.inS k' c (by rw [HSt0.out]; exact h2))
        go_roundw
        case rel => exact ⟨n + 1, by go_num, by omega, hdk, HI.out.mod.trans hmw⟩
        case measure => simp [intOf]; omega
    · have hke : n = k := by omega
      subst hke
      clear hlt
      have hdisk := HI.out.disk
      have hrow : DRow wr g x.d p.nm p.su p.tu p.kn := hdisk.row
      have z3 := blk_free hrow 3
      have k3 := blk_cell hrow 3
      have HRow := Lib.hid hrow
      have hsz := blk_lt hrow
      have hm2 : Mod [g] wr (wr.setCell ⟨g, 3, none⟩ (.slice none 0 0)) := mod_set wr g 3 _
      have hsu2 : Names (wr.setCell ⟨g, 3, none⟩ (.slice none 0 0)) p.su (p.n2 + n) (turnsL x.S (x.ts.take n)) := hdisk.sure.mod hm2 (by simp only [List.mem_singleton]; rintro e; exact hdisk.sure.notT (e ▸ hdisk.isG))
      have HC := Lib.hid (mclone_any _ p.su (p.n2 + n) _ hsu2)
      have HR2 := Lib.hid (blk_set hrow 3 (.slice none 0 0))
      have HM2 := Lib.hid hm2
      have k2 : (wr.setCell ⟨g, 3, none⟩ (.slice none 0 0)).cell? ⟨g, 2, none⟩ = some (.map (some p.su)) := blk_cell HR2.out 2
      clear hdisk hrow hm2 hsu2
      generalize hS : turnsL x.S (x.ts.take n) = S2 at *
      have HS2 := Lib.hid hS
      clear hS
      go_wp2_with fail
      refine HC.out.mono ?_
      rintro e w3 ⟨rfl, hn3, hm3, hlt3⟩
      have hr3 := hm3.row HR2.out (by simp)
      have hge : wr.heap.size ≤ (wr.setCell ⟨g, 3, none⟩ (.slice none 0 0)).heap.size := HM2.out.size
      generalize (wr.setCell ⟨g, 3, none⟩ (.slice none 0 0)).heap.size = nm2 at *
      have hm4 : Mod [g] w3 (w3.setCell ⟨g, 1, none⟩ (.map (some nm2))) := mod_set w3 g 1 _
      have hr4 : (w3.setCell ⟨g, 1, none⟩ (.map (some nm2))).heap[g]? = some (.cells (diskR x.d (.map (some nm2)) (.map (some p.su)) (.slice none 0 0) p.kn) 55 (0, 0)) := blk_set hr3 1 _
      have hgn : nm2 ≠ g := by omega
      have k1 := blk_cell hr3 1
      have z1 := blk_free hr3 1
      have hm5 : Mod [] (w3.setCell ⟨g, 1, none⟩ (.map (some nm2))) ((w3.setCell ⟨g, 1, none⟩ (.map (some nm2))).alloc (.cells #[.map (some nm2)] 50)) := (Mod.refl [] _).alloc _
      have hn5 : Names ((w3.setCell ⟨g, 1, none⟩ (.map (some nm2))).alloc (.cells #[.map (some nm2)] 50)) nm2 (p.n2 + n) S2 := (hn3.mod hm4 (by simp; exact hgn)).mod hm5 (by simp)
      have hmg : Mod [g] wr ((w3.setCell ⟨g, 1, none⟩ (.map (some nm2))).alloc (.cells #[.map (some nm2)] 50)) := ((HM2.out.trans (hm3.mono (by simp))).trans hm4).trans (hm5.mono (by simp))
      have hf5 : ∀ b ∈ x.ps, FileAt ((w3.setCell ⟨g, 1, none⟩ (.map (some nm2))).alloc (.cells #[.map (some nm2)] 50)) b (x.F b) (p.V b).vs (p.V b).vu (p.V b).vw (p.V b).ws := fun b hb => (HI.out.disk.files b hb).mod hmg (fun q hq => by
        simp only [List.mem_singleton]; rintro rfl
        exact (HI.out.disk.files b hb).other HI.out.disk.isG (by decide) (by decide) (by decide) hq)
      have hsub : ∀ q ∈ S2, q.2 ∈ x.ps := fun q hq => HI.out.disk.inS q.1 q.2 (by show findB (turnsL x.S (x.ts.take n)) q.1 = _; rw [HS2.out]; exact findB_mem hn3.keys q hq)
      have HY := Lib.hid (sortedFunc_any _ (w3.setCell ⟨g, 1, none⟩ (.map (some nm2))).heap.size nm2 (p.n2 + n) S2 HL.out (by simp) (blk_cell (heap_alloc_new _ _) 0) hn5 x.ps x.F p.V hf5 hsub)
      have HV := Lib.hid (values_any (some nm2) (w3.setCell ⟨g, 1, none⟩ (.map (some nm2))))
      have k1' : (w3.setCell ⟨g, 1, none⟩ (.map (some nm2))).cell? ⟨g, 1, none⟩ = some (.map (some nm2)) := blk_cell hr4 1
      have HR5 := Lib.hid (hm5.row hr4 (by simp))
      have HN5 := Lib.hid hn5
      have HM5 := Lib.hid hmg
      have HSub := Lib.hid hsub
      have HGe := Lib.hid hge
      clear hm4 hm5 hn5 hmg hf5 hsub hr3 hr4 hm3 hn3 hlt3 hge
      generalize hW4 : w3.setCell ⟨g, 1, none⟩ (.map (some nm2)) = W4 at *
      go_wp2_with fail
      refine HV.out.mono ?_
      rintro e w5 ⟨rfl, rfl⟩
      go_wp2_with fail
      refine HY.out.mono ?_
      rintro e w6 ⟨v, rfl, ys, hp, hpw, hown, hm6⟩
      have hr6 := hm6.row HR5.out (by simp)
      have k4 := blk_cell hr6 4
      have z4 := blk_free hr6 4
      have HP := Lib.hid hp
      have HPw := Lib.hid hpw
      have HOw := Lib.hid hown
      have HM6 := Lib.hid hm6
      have HR6 := Lib.hid hr6
      obtain ⟨av, cv, rfl, -, -⟩ := owns_shape hown
      clear hp hpw hown hm6 hr6
      go_wp2_with fail
      go_end0
      refine And.intro rfl ?_
      have hys := sorted_keep HMd.out HI.out.disk.dup H1.out HSub.out HP.out HPw.out
      subst hys
      have hmf : Mod [g] wr (w6.setCell ⟨g, 4, none⟩ (.slice av (keepPs x.ps S2).length cv)) := (HM5.out.trans (HM6.out.mono (by simp))).trans (mod_set w6 g 4 _)
      have hm64 : Mod [g] w6 (w6.setCell ⟨g, 4, none⟩ (.slice av (keepPs x.ps S2).length cv)) := mod_set w6 g 4 _
      have hgp : IsT 55 w6 g := ⟨_, HR6.out⟩
      have hkn : Known (w6.setCell ⟨g, 4, none⟩ (.slice av (keepPs x.ps S2).length cv)) (.slice av (keepPs x.ps S2).length cv) (keepPs x.ps S2) := by
        have h2 := hm64.owns HOw.out (fun q hq => by
          simp only [List.mem_singleton]; rintro rfl
          exact (owns_isT HOw.out hq).ne (by decide) hgp)
        unfold Known
        rw [List.length_map]
        exact owns_low h2
      have hN7 : Names (w6.setCell ⟨g, 4, none⟩ (.slice av (keepPs x.ps S2).length cv)) nm2 (p.n2 + n) S2 := (HN5.out.mod HM6.out (by simp)).mod hm64 (by simp; exact hgn)
      have hin : ∀ k' b, findB S2 k' = some b → b ∈ keepPs x.ps S2 := fun k' b hb => mem_keepPs.2 ⟨HI.out.disk.inS k' b (by show findB (turnsL x.S (x.ts.take n)) k' = _; rw [HS2.out]; exact hb), findB_in hb⟩
      have hwg : w.heap.size ≤ nm2 := Nat.le_trans HI.out.mod.size HGe.out
      have hne : nm2 ≠ p.su := by
        have := HH.out.sure.lt
        omega
      have hov : ∀ q, (Value.slice av (keepPs x.ps S2).length cv).ownBlock = some q → w.heap.size ≤ q := fun q hq => by
        have h1 := (HOw.out.lt q hq).1
        have h2 := HM5.out.size
        have h3 := HI.out.mod.size
        omega
      have hfin := HI.out.disk.kept hmf (blk_set HR6.out 4 _) hN7 (tu' := .slice none 0 0) (ts' := []) (by unfold Turns; exact World.ownsRow_nil _ _ _ _) hkn hne (fun b hb => (mem_keepPs.1 hb).1) (HI.out.disk.dup.sublist List.filter_sublist) hin (fun k' b hb => hin k' b (by rw [← HS2.out]; exact hb)) (by simp)
      refine ⟨{ p with nm := nm2, tu := .slice none 0 0, kn := .slice av (keepPs x.ps S2).length cv, n1 := p.n2 + n, n2 := p.n2 + n }, ?_, ?_, ?_⟩
      · unfold keepS
        rw [HS2.out]
        have h9 := hfin
        simp only [HS2.out] at h9
        exact h9
      · intro q hq
        unfold keepS DPl.all at hq
        rw [HS2.out] at hq
        simp only [List.mem_cons, List.mem_append, Option.mem_toList, List.mem_flatMap] at hq
        rcases hq with rfl | rfl | rfl | h1 | h1 | ⟨b, hb, h1⟩
        · exact .inl DPl.all_g
        · exact .inr hwg
        · exact .inl (by simp [DPl.all])
        · cases h1
        · exact .inr (hov q h1)
        · exact .inl (DPl.all_file (mem_keepPs.1 hb).1 h1)
      · refine (HI.out.mod.mono ?_).trans' hmf ?_
        · intro q hq; simp only [List.mem_singleton] at hq; subst hq; exact .inl (by simp [DPl.all])
        · intro q hq; simp only [List.mem_singleton] at hq; subst hq; exact .inl DPl.all_g
end Go.Proofs.Ytfcoaafmjllpfaa
