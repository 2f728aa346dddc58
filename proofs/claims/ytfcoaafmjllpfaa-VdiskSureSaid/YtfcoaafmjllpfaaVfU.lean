/- The disk: a turn of its names; Sync, Unlink, Rename. -/
import Derived.Test.YtfcoaafmjllpfaaVfT
namespace Go.Proofs.Ytfcoaafmjllpfaa
open Go.ChangeShapes Go.WideShapes Go.ChangeAt Go.RowKit
set_option linter.unusedVariables false
set_option linter.unusedSimpArgs false

theorem findB_del {L : NmL} {k k' : List UInt8} {b : Nat} (h : findB (delB L k') k = some b) : findB L k = some b := by
  unfold findB delB at h
  unfold findB
  induction L with
  | nil => exact h
  | cons p L ih =>
    rw [List.filter_cons] at h
    rw [List.find?_cons]
    by_cases hp : p.1 = k
    · by_cases hk : p.1 = k'
      · have e : (p.1 == k') = true := by simp [hk]
        rw [e, Bool.not_true, if_neg (by simp)] at h
        exfalso
        have hkk : k = k' := hp.symm.trans hk
        subst hkk
        cases hf : (L.filter fun q => !(q.1 == k)).find? (fun q => q.1 == k) with
        | none => rw [hf] at h; cases h
        | some q =>
          have h1 := List.mem_of_find?_eq_some hf
          have h2 := List.find?_some hf
          have h3 := (List.mem_filter.1 h1).2
          simp_all
      · have e : (p.1 == k') = false := by simp [hk]
        rw [e, Bool.not_false, if_pos rfl, List.find?_cons] at h
        exact (by simpa [hp] using h)
    · have e0 : (p.1 == k) = false := by simp [hp]
      rw [e0]
      refine ih ?_
      by_cases hk : p.1 = k'
      · have e : (p.1 == k') = true := by simp [hk]
        rw [e, Bool.not_true, if_neg (by simp)] at h
        exact h
      · have e : (p.1 == k') = false := by simp [hk]
        rw [e, Bool.not_false, if_pos rfl, List.find?_cons, e0] at h
        exact h
theorem findB_ins {x : List UInt8 × Nat} {k : List UInt8} {b : Nat} : ∀ {L : NmL}, findB (insB x L) k = some b → b = x.2 ∨ findB L k = some b
  | [], h => by
    unfold insB findB at h
    by_cases hp : x.1 = k
    · simp [List.find?_cons, hp] at h; exact .inl h.symm
    · have e0 : (x.1 == k) = false := by simp [hp]
      simp [List.find?_cons, e0] at h
  | y :: r, h => by
    unfold insB at h
    by_cases hb : bytesBefore x.1 y.1 = true
    · rw [if_pos hb] at h
      unfold findB at h ⊢
      rw [List.find?_cons] at h
      by_cases hp : x.1 = k
      · simp [hp] at h; exact .inl h.symm
      · have e0 : (x.1 == k) = false := by simp [hp]
        rw [e0] at h
        exact .inr h
    · rw [if_neg hb] at h
      unfold findB at h
      rw [List.find?_cons] at h
      by_cases hp : y.1 = k
      · right
        unfold findB
        rw [List.find?_cons]
        have e0 : (y.1 == k) = true := by simp [hp]
        rw [e0] at h ⊢
        exact h
      · have e0 : (y.1 == k) = false := by simp [hp]
        rw [e0] at h
        rcases findB_ins (L := r) h with h1 | h1
        · exact .inl h1
        · right
          unfold findB at h1 ⊢
          rw [List.find?_cons, e0]
          exact h1
theorem findB_turn {L : NmL} {fr to_ : ByteArray} {b : Nat} {k : List UInt8} {c : Nat} (h : findB (turnL L fr to_ b) k = some c) : (to_.size ≠ 0 ∧ c = b) ∨ findB L k = some c := by
  unfold turnL at h
  split at h
  · exact .inr (findB_del h)
  · rename_i hz
    rcases findB_ins h with h1 | h1
    · exact .inl ⟨hz, h1⟩
    · exact .inr (findB_del (findB_del h1))
/-- behind a turn of the names -/
def turnS (x : DSt) (m : TurnM) (b : Nat) : DSt := { x with L := turnL x.L m.fr m.to_ b, ts := x.ts ++ [m] }
theorem DAt.turned {w w' : World} {g nm su : Nat} {tu kn : Value} {n1 n2 : Nat} {x : DSt} {V : Nat → VT} (h : DAt w g nm su tu kn n1 n2 x V) {m : TurnM} {b : Nat} (ht : TurnP w g x.d nm su tu kn n1 x.L x.ts m b w') (hb : m.to_.size ≠ 0 → b ∈ x.ps) (hmp : m.p = .pointer none ∨ ∃ b ∈ x.ps, m.p = fptr b) :
    ∃ tu', DAt w' g nm su tu' kn (n1 + 1) n2 (turnS x m b) V ∧ (tu'.ownBlock = tu.ownBlock ∨ ∃ q, tu'.ownBlock = some q ∧ w.heap.size ≤ q) := by
  obtain ⟨tu', hr, htu, htb⟩ := ht.row
  have hm := ht.mod
  have hG := h.isG
  have hmem : ∀ q, q ∈ g :: nm :: tu.ownBlock.toList → q = g ∨ q = nm ∨ tu.ownBlock = some q := by
    intro q hq
    simp only [List.mem_cons, Option.mem_toList] at hq
    exact hq
  refine ⟨tu', ⟨hr, ht.names, h.sure.mod hm ?_, htu, hm.owns h.known ?_, h.ne, fun c hc => (h.files c hc).mod hm ?_, h.apart, h.dup, ?_, h.inS, ?_⟩, htb⟩
  · intro hq
    rcases hmem _ hq with rfl | h1 | h1
    · exact h.sure.notT hG
    · exact h.ne h1.symm
    · exact h.sure.notT (owns_isT h.turns h1)
  · intro k hk hq
    rcases hmem _ hq with rfl | rfl | h1
    · exact (owns_isT h.known hk).ne (by decide) hG
    · exact h.names.notT (owns_isT h.known hk)
    · exact (owns_isT h.known hk).ne (by decide) (owns_isT h.turns h1)
  · intro q hq hq2
    rcases hmem _ hq2 with rfl | rfl | h1
    · exact (h.files c hc).other hG (by decide) (by decide) (by decide) hq
    · exact (h.files c hc).notMap h.names hq
    · exact (h.files c hc).other (owns_isT h.turns h1) (by decide) (by decide) (by decide) hq
  · intro k c hc
    rcases findB_turn hc with ⟨h1, rfl⟩ | h1
    · exact hb h1
    · exact h.inL k c h1
  · intro t ht
    rcases List.mem_append.1 ht with h1 | h1
    · exact h.inT t h1
    · rw [List.mem_singleton.1 h1]; exact hmp
theorem DPl.all_tu {w : World} {p : DPl} {g : Nat} {ps : List Nat} {tu' : Value} {n : Nat} (h : tu'.ownBlock = p.tu.ownBlock ∨ ∃ q, tu'.ownBlock = some q ∧ w.heap.size ≤ q) : ∀ q ∈ ({ p with tu := tu', n1 := n } : DPl).all g ps, q ∈ p.all g ps ∨ w.heap.size ≤ q := by
  intro q hq
  unfold DPl.all at hq ⊢
  simp only [List.mem_cons, List.mem_append, Option.mem_toList] at hq ⊢
  rcases hq with h1 | h1 | h1 | h1 | h1
  · exact .inl (.inl h1)
  · exact .inl (.inr (.inl h1))
  · exact .inl (.inr (.inr (.inl h1)))
  · rcases h with h2 | ⟨q', h2, h3⟩
    · rw [h2] at h1
      exact .inl (.inr (.inr (.inr (.inl h1))))
    · have : q' = q := by simpa [h2] using h1
      exact .inr (by omega)
  · exact .inl (.inr (.inr (.inr (.inr h1))))
theorem DPl.all_turn {p : DPl} {g : Nat} {ps : List Nat} : ∀ q ∈ g :: p.nm :: p.tu.ownBlock.toList, q ∈ p.all g ps := by
  intro q hq
  unfold DPl.all
  simp only [List.mem_cons, List.mem_append] at hq ⊢
  rcases hq with h1 | h1 | h1
  · exact .inl h1
  · exact .inr (.inl h1)
  · exact .inr (.inr (.inr (.inl h1)))
/-- behind Unlink -/
def unlinkS (x : DSt) (s : ByteArray) : DSt × Int :=
  if (toC x s.data.toList).2 ≠ 0 then ({ x with d := x.d.begin.1 }, (toC x s.data.toList).2) else (turnS { x with d := x.d.begin.1 } ⟨s, ByteArray.empty, .pointer none⟩ 0, 0)
set_option maxHeartbeats 2000000 in
theorem unlink_any (w : World) (g : Nat) (p : DPl) (x : DSt) (h : DOk w g p x) (hd : x.d.In) (hn1 : p.n1 < maxLen) (hts : x.ts.length ≤ 1000000000) (s : ByteArray) (hs : s.size ≤ maxLen) :
    Calls Try.prog 41 #[.pointer (some ⟨g, 0, none⟩), .string s] w (Act w g x p (unlinkS x s)) := by
  have HT := Lib.hid (toChange_any w g p.nm p.su p.tu p.kn p.n1 p.n2 x p.V h hd s hs)
  have HN := Lib.hid (And.intro hn1 (And.intro hts hs))
  clear h hd hn1 hts hs
  by_cases hc : (toC x s.data.toList).2 = 0
  · obtain ⟨b, hb, ht⟩ := toC_found hc
    have HS := Lib.hid (show unlinkS x s = (turnS { x with d := x.d.begin.1 } ⟨s, ByteArray.empty, .pointer none⟩ 0, 0) by unfold unlinkS; rw [if_neg (by simp [hc])])
    rw [ht] at HT
    simp only [fptr] at HT
    rw [HS.out]
    clear hc hb ht
    go_enter Try.func41, Try.ntmps41
    go_wp2_with fail
    refine HT.out.mono ?_
    rintro e w1 ⟨rfl, hD, hm⟩
    have HD := Lib.hid hD
    have HM := Lib.hid hm
    have HY := Lib.hid (turn_any w1 g x.d.begin.1 p.nm p.su p.tu p.kn hD.row p.n1 x.L hD.names HN.out.1 x.ts hD.turns HN.out.2.1 ⟨s, ByteArray.empty, .pointer none⟩ 0 HN.out.2.2 (by simp [maxLen]) (fun h => absurd rfl h) rfl)
    clear hD hm
    go_wp2_with fail
    refine HY.out.mono ?_
    rintro e w2 ⟨rfl, hT⟩
    have HM2 := Lib.hid hT.mod
    obtain ⟨tu', hD2, htb⟩ := HD.out.turned hT (fun h => absurd rfl h) (.inl rfl)
    have HD2 := Lib.hid hD2
    have HTb := Lib.hid htb
    clear hT hD2 htb
    go_wp2_with fail
    go_ret
    refine ⟨rfl, ⟨{ p with tu := tu', n1 := p.n1 + 1 }, HD2.out, ?_⟩, ?_⟩
    · exact DPl.all_tu (HTb.out.imp id (fun ⟨q, h1, h2⟩ => ⟨q, h1, Nat.le_trans HM.out.size h2⟩))
    · refine (HM.out.mono ?_).trans (HM2.out.mono ?_)
      · intro q hq; simp only [List.mem_singleton] at hq; subst hq; exact .inl DPl.all_g
      · intro q hq; exact .inl (DPl.all_turn q hq)
  · have HS := Lib.hid (show unlinkS x s = ({ x with d := x.d.begin.1 }, (toC x s.data.toList).2) by unfold unlinkS; rw [if_pos hc])
    rw [HS.out]
    generalize toC x s.data.toList = tc at *
    obtain ⟨v, c⟩ := tc
    have z0 : (c != 0) = true := by rw [bne_iff_ne]; exact hc
    simp only at HT
    clear hc
    go_enter Try.func41, Try.ntmps41
    go_wp2_with fail
    refine HT.out.mono ?_
    rintro e w1 ⟨rfl, hD, hm⟩
    have HD := Lib.hid hD
    have HM := Lib.hid hm
    clear hD hm
    go_wp2_with fail
    go_ret
    refine ⟨rfl, ⟨p, HD.out, fun q hq => .inl hq⟩, HM.out.mono ?_⟩
    intro q hq; simp only [List.mem_singleton] at hq; subst hq; exact .inl DPl.all_g
set_option maxHeartbeats 2000000 in
theorem sync_act (w : World) (g : Nat) (p : DPl) (x : DSt) (h : DOk w g p x) (hd : x.d.In) (hfit : x.Fit) (s : ByteArray) (hs : s.size ≤ maxLen) :
    Calls Try.prog 12 #[.pointer (some ⟨g, 0, none⟩), .string s] w (Act w g x p (syncS x s.data.toList)) := by
  have HT := Lib.hid (toChange_any w g p.nm p.su p.tu p.kn p.n1 p.n2 x p.V h hd s hs)
  have HFit := Lib.hid hfit
  have HIn := Lib.hid h.inL
  clear h hd hfit
  by_cases hc : (toC x s.data.toList).2 = 0
  · obtain ⟨b, hb, ht⟩ := toC_found hc
    have HS := Lib.hid (show syncS x s.data.toList = (DSt.setF { x with d := x.d.begin.1 } b (x.F b).sync, 0) by unfold syncS; rw [if_neg (by simp [hc]), hb])
    rw [ht] at HT
    simp only [fptr] at HT
    have hbp := HIn.out _ _ hb
    obtain ⟨f1, f2, f3, f4⟩ := HFit.out b hbp
    have HFt := Lib.hid (And.intro f1 (And.intro f2 (And.intro f3 f4)))
    have HBp := Lib.hid hbp
    rw [HS.out]
    clear hc hb ht hbp f1 f2 f3 f4
    go_enter Try.func12, Try.ntmps12
    go_wp2_with fail
    refine HT.out.mono ?_
    rintro e w1 ⟨rfl, hD, hm⟩
    have hf := hD.files b HBp.out
    have heq := hf.eq
    have hwl : (p.V b).ws.length = (x.F b).writes.length := by
      have := congrArg List.length heq
      simpa using this.symm
    have HY := Lib.hid (fsync_any w1 b (x.F b) _ _ _ _ hf HFt.out.1 (fun m hm => by
      have hmem : (m.k, m.x) ∈ (x.F b).writes := by rw [show (x.F b).writes = _ from heq]; exact List.mem_map.2 ⟨m, hm, rfl⟩
      exact HFt.out.2.2.2 _ hmem) HFt.out.2.1 (by rw [hwl]; exact HFt.out.2.2.1))
    have HD := Lib.hid hD
    have HM := Lib.hid hm
    clear hD hm hf heq hwl
    unfold SyncP at HY
    go_wp2_with fail
    refine HY.out.mono ?_
    rintro e w2 ⟨rfl, vu', hf2, hm2, hv2⟩
    have hin : ∀ q ∈ (⟨(p.V b).vs, vu', .slice none 0 0, []⟩ : VT).all b, q ∈ (p.V b).all b ∨ w1.heap.size ≤ q := by
      intro q hq
      simp only [VT.all, fAll, fFoot, wrReads, List.mem_cons, List.mem_append, Option.mem_toList, List.flatMap_nil, List.not_mem_nil, or_false] at hq ⊢
      rcases hq with h1 | h1 | h1 | h1
      · exact .inl (.inl (.inl h1))
      · exact .inl (.inl (.inr (.inl h1)))
      · rcases hv2 q h1 with h2 | h2
        · exact .inl (.inl (.inr (.inr (.inl h2))))
        · exact .inr h2
      · cases h1
    have HD2 := Lib.hid (HD.out.setFile b HBp.out hm2 _ ⟨(p.V b).vs, vu', .slice none 0 0, []⟩ hf2 hin)
    have HM2 := Lib.hid hm2
    have HA2 := Lib.hid (show ∀ c, ∀ q ∈ ((fun c => if c = b then (⟨(p.V b).vs, vu', .slice none 0 0, []⟩ : VT) else p.V c) c).all c, q ∈ (p.V c).all c ∨ w.heap.size ≤ q by
      intro c q hq
      by_cases he : c = b
      · subst he
        simp only [if_true] at hq
        rcases hin q hq with h1 | h1
        · exact .inl h1
        · exact .inr (Nat.le_trans HM.out.size h1)
      · simp only [he, if_false] at hq
        exact .inl hq)
    clear hf2 hm2 hv2 hin
    go_wp2_with fail
    go_ret
    refine ⟨rfl, ⟨{ p with V := fun c => if c = b then ⟨(p.V b).vs, vu', .slice none 0 0, []⟩ else p.V c }, HD2.out, ?_⟩, ?_⟩
    · exact DPl.all_V HA2.out
    · refine (HM.out.mono ?_).trans (HM2.out.mono ?_)
      · intro q hq; simp only [List.mem_singleton] at hq; subst hq; exact .inl DPl.all_g
      · intro q hq; exact .inl (DPl.all_file HBp.out (foot_all hq))
  · have HS := Lib.hid (show syncS x s.data.toList = ({ x with d := x.d.begin.1 }, (toC x s.data.toList).2) by unfold syncS; rw [if_pos hc])
    rw [HS.out]
    generalize toC x s.data.toList = tc at *
    obtain ⟨v, c⟩ := tc
    have z0 : (c != 0) = true := by rw [bne_iff_ne]; exact hc
    simp only at HT
    clear hc
    go_enter Try.func12, Try.ntmps12
    go_wp2_with fail
    refine HT.out.mono ?_
    rintro e w1 ⟨rfl, hD, hm⟩
    have HD := Lib.hid hD
    have HM := Lib.hid hm
    clear hD hm
    go_wp2_with fail
    go_ret
    refine ⟨rfl, ⟨p, HD.out, fun q hq => .inl hq⟩, HM.out.mono ?_⟩
    intro q hq; simp only [List.mem_singleton] at hq; subst hq; exact .inl DPl.all_g
end Go.Proofs.Ytfcoaafmjllpfaa
