/- The disk: Used. -/
import Derived.Test.YtfcoaafmjllpfaaVfQ
namespace Go.Proofs.Ytfcoaafmjllpfaa
open Go.ChangeShapes Go.WideShapes Go.ChangeAt Go.RowKit
set_option linter.unusedVariables false
set_option linter.unusedSimpArgs false

theorem mD_at' (L : NmL) (k : List UInt8) (zd : DataW Unit) : (mD L).atKey (.string k) zd = match findB L k with | some b => .lit (.int .i64 b) | none => zd := by
  unfold mD DataW.atKey findB
  simp only
  induction L with
  | nil => rfl
  | cons p L ih =>
    simp only [List.map_cons, List.find?_cons, Lit.sameKey]
    cases hp : (p.1 == k) with
    | true => rfl
    | false => exact ih
/-- the bytes of the files that are still to come -/
def leftSum (left : Lit → Bool) (F : Nat → FileD) : NmL → Nat
  | [] => 0
  | p :: L => (if left (.string p.1) then (F p.2).seen.length else 0) + leftSum left F L
def usedN (F : Nat → FileD) (L : NmL) : Nat := leftSum (fun _ => true) F L
abbrev KeysNe (L : NmL) : Prop := L.Pairwise fun p q => p.1 ≠ q.1
theorem leftSum_same {left left' : Lit → Bool} {F : Nat → FileD} : ∀ {L : NmL}, (∀ p ∈ L, left (.string p.1) = left' (.string p.1)) → leftSum left F L = leftSum left' F L
  | [], _ => rfl
  | p :: L, h => by
    rw [leftSum, leftSum, h p (by simp), leftSum_same (fun q hq => h q (List.mem_cons_of_mem _ hq))]
theorem leftSum_none {left : Lit → Bool} {F : Nat → FileD} (h : ∀ kl, left kl = false) : ∀ L : NmL, leftSum left F L = 0
  | [] => rfl
  | p :: L => by rw [leftSum, h, leftSum_none h L]; rfl
theorem leftSum_step {left : Lit → Bool} {F : Nat → FileD} {k : List UInt8} {b : Nat} (hk : left (.string k) = true) : ∀ {L : NmL}, KeysNe L → findB L k = some b → leftSum left F L = (F b).seen.length + leftSum (fun z => left z && !z.sameKey (.string k)) F L
  | [], _, h => by simp [findB] at h
  | p :: L, hn, h => by
    have hn := List.pairwise_cons.1 hn
    rw [leftSum, leftSum]
    by_cases hp : p.1 = k
    · subst hp
      have hb : p.2 = b := by simpa [findB] using h
      subst hb
      have e : leftSum (fun z => left z && !z.sameKey (.string p.1)) F L = leftSum left F L := leftSum_same fun q hq => by
        have := hn.1 q hq
        have e2 : (Lit.string q.1).sameKey (.string p.1) = (q.1 == p.1) := rfl
        rw [e2, beq_eq_false_iff_ne.2 (fun h => this h.symm)]; simp
      have e2 : (Lit.string p.1).sameKey (.string p.1) = (p.1 == p.1) := rfl
      rw [e, hk, if_pos rfl, e2]
      simp
    · have hf : findB L k = some b := by
        have : (p.1 == k) = false := beq_eq_false_iff_ne.2 hp
        simpa [findB, List.find?_cons, this] using h
      have ih := leftSum_step (F := F) hk hn.2 hf
      have e2 : (Lit.string p.1).sameKey (.string k) = (p.1 == k) := rfl
      rw [ih, e2, beq_eq_false_iff_ne.2 hp]
      simp only [Bool.not_false, Bool.and_true]
      omega
theorem Names.keys {w : World} {g n : Nat} {L : NmL} (h : Names w g n L) : KeysNe L := by
  obtain ⟨es, he, hp, -⟩ := World.ownsMap.entries h nameK
  unfold mD at he
  simp only [DataW.map.injEq] at he
  rw [← he] at hp
  rw [List.pairwise_map] at hp
  refine hp.imp ?_
  intro a b hab hc
  exact hab (by rw [hc])
theorem names_inv (key : Value) (kl : Lit) (h : keyOf Try.prog 9 key = some kl) : ∃ s : ByteArray, key = .string s := by
  obtain ⟨s, h1, -, -⟩ := WideMaps.string_of_keyOf Try.underlying9 h
  exact ⟨s, h1⟩
def ptrV (c : Option Nat) : Value := match c with | some b => fptr b | none => .pointer none
theorem ptrE_any (v : Value) (y : DataW Unit × List MemPlace) (h : ptrE v = some y) : ∃ c, v = ptrV c := by
  unfold ptrE at h
  split at h
  · exact ⟨none, rfl⟩
  · rename_i a
    split at h
    · rename_i hc
      obtain ⟨blk, off, spot⟩ := a
      obtain ⟨rfl, rfl⟩ := hc
      exact ⟨some blk, rfl⟩
    · cases h
  · cases h
theorem leftSum_le (left : Lit → Bool) (F : Nat → FileD) : ∀ L : NmL, leftSum left F L ≤ usedN F L
  | [] => Nat.le_refl _
  | p :: L => by
    have := leftSum_le left F L
    unfold usedN at *
    rw [leftSum, leftSum, if_pos rfl]
    split <;> omega
theorem has_mD (F : Nat → FileD) (L : NmL) : leftSum (Maps.has (mD L)) F L = usedN F L := by
  unfold usedN
  refine leftSum_same fun p hp => ?_
  unfold mD
  rw [Maps.has_eq, List.any_eq_true]
  exact ⟨(.string p.1, .lit (.int .i64 p.2)), List.mem_map.2 ⟨p, hp, rfl⟩, by simp [Lit.sameKey]⟩
def usedR (d : DiskN) (L : NmL) (F : Nat → FileD) : Nat := if d.down then 0 else usedN F L
set_option maxRecDepth 100000 in
set_option maxHeartbeats 2000000 in
theorem used_any (w : World) (g nm su : Nat) (tu kn : Value) (n1 n2 : Nat) (x : DSt) (V : Nat → VT) (h : DAt w g nm su tu kn n1 n2 x V) (hu : usedN x.F x.L ≤ 1000000000000) :
    Calls Try.prog 55 #[.pointer (some ⟨g, 0, none⟩)] w fun e w' => e = .returned (.int .i64 (usedR x.d x.L x.F)) ∧ Mod [] w w' := by
  have k6 : w.cell? ⟨g, 6, none⟩ = some (.bool x.d.down) := blk_cell h.row 6
  have k1 : w.cell? ⟨g, 1, none⟩ = some (.map (some nm)) := blk_cell h.row 1
  have HH := Lib.hid h
  have HK := Lib.hid h.names.keys
  have HU := Lib.hid hu
  clear h hu
  cases hd : x.d.down with
  | true =>
    rw [hd] at k6
    have HR := Lib.hid (show usedR x.d x.L x.F = 0 from if_pos hd)
    clear hd
    rw [HR.out]
    go_enter Try.func55, Try.ntmps55
    go_wp2_with fail
    go_ret
    exact ⟨rfl, Mod.refl _ _⟩
  | false =>
    rw [hd] at k6
    have HR := Lib.hid (show usedR x.d x.L x.F = usedN x.F x.L from if_neg (by simp [hd]))
    clear hd
    rw [HR.out]
    go_enter Try.func55, Try.ntmps55
    go_wp2_with (at_range; refine wpList_range_own _ rfl _ _ rfl _ _ nameK Try.underlying50 ptrE nm n1 (mD x.L) rfl HH.out.names ?_; intro w0 hrg0 hg0 hs0)
    have HM0 := Lib.hid (Mod.ofGrown (row := none) hg0)
    have HRg0 := Lib.hid hrg0
    clear hrg0 hg0 hs0
    go_frame
    go_loopw [3] (fun u wr => ∃ (left : Lit → Bool) (cnt used : Nat), u = .int .i64 used ∧ wr.ranges Try.prog 9 ptrE nm w.heap.size n1 (mD x.L) left cnt ∧ Mod [] w wr ∧ used + leftSum left x.F x.L = usedN x.F x.L) (fun _ wr => wr.rangeLeft nm w.heap.size)
    case atStart => exact ⟨_, _, 0, rfl, HRg0.out, HM0.out, by rw [has_mD x.F, Nat.zero_add]⟩
    case round =>
      obtain ⟨left, cnt, used, rfl, hrg, hm, hsum⟩ := hrel
      have HM := Lib.hid hm
      have HS := Lib.hid hsum
      have HRg := Lib.hid hrg
      clear hm hsum hrg HRg0 HM0
      go_wp2_with (at_next; refine wpList_next_ranges _ rfl _ rfl _ nameK ptrE Value.string ptrV names_inv ptrE_any nm w.heap.size n1 _ _ _ rfl HRg.out ?_ ?_)
      · intro _ hl0
        have HZ := Lib.hid (show used = usedN x.F x.L by have := HS.out; rw [leftSum_none hl0] at this; omega)
        go_wp2_with fail
        go_ret
        rw [HZ.out]
        exact ⟨rfl, HM.out⟩
      · intro s c kl ya yb w1 cnt1 hkey hlx hv hat hrg1 hlt hg1 hs1 hen
        obtain ⟨s', hs', hkl, hsm⟩ := WideMaps.string_of_keyOf Try.underlying9 hkey
        subst hkl
        have hm1 : Mod [] w w1 := HM.out.trans' (Mod.ofGrown (row := some w.heap.size) hg1) (fun z hz => by
          have : z = w.heap.size := by simpa using hz
          exact Or.inr (by omega))
        cases hf : findB x.L s'.data.toList with
        | none =>
          exfalso
          have h1 := hat (.lit (.bool true))
          have h2 := hat (.lit (.bool false))
          rw [mD_at', hf] at h1 h2
          rw [← h2] at h1
          simp at h1
        | some b =>
          have h1 := hat (.lit (.bool true))
          rw [mD_at', hf] at h1
          rw [← h1] at hv
          have hcv := ptrE_inv hv
          rw [hcv] at hen ⊢
          have hfa := (HH.out.files b (HH.out.inL _ _ hf)).quiet hm1
          obtain ⟨a3, c3, hvs, -, -⟩ := owns_shape hfa.seen
          have k3 : w1.cell? ⟨b, 1, none⟩ = some (.slice a3 (x.F b).seen.length c3) := by rw [← hvs]; exact blk_cell hfa.row 1
          have hst := leftSum_step (F := x.F) hlx HK.out hf
          have HN := Lib.hid (show used + (x.F b).seen.length + leftSum (fun z => left z && !z.sameKey (.string s'.data.toList)) x.F x.L = usedN x.F x.L by have := HS.out; omega)
          have HR1 := Lib.hid hrg1
          have HM1 := Lib.hid hm1
          have HLt := Lib.hid hlt
          have hle : used + (x.F b).seen.length ≤ 1000000000000 := by have := HN.out; have := HU.out; omega
          simp only [fptr] at hen ⊢
          clear hkey hlx hv hat hrg1 hg1 hs1 hm1 hf h1 hcv hfa hvs hst hs' hsm hlt
          go_wp2_with fail
          go_roundw
          case rel => exact ⟨_, cnt1, used + (x.F b).seen.length, by go_num, HR1.out, HM1.out, HN.out⟩
          case measure => rw [HR1.out.left_eq, HRg.out.left_eq]; exact HLt.out
end Go.Proofs.Ytfcoaafmjllpfaa
