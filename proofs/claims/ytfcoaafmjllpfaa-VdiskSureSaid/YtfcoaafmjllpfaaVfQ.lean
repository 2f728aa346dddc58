/- The disk: toChange, Sync. -/
import Derived.Test.YtfcoaafmjllpfaaVfO
namespace Go.Proofs.Ytfcoaafmjllpfaa
open Go.ChangeShapes Go.WideShapes Go.ChangeAt Go.RowKit
set_option linter.unusedVariables false
set_option linter.unusedSimpArgs false

/-- numbers within their bounds -/
structure DiskN.In (d : DiskN) : Prop where
  c0 : 0 ≤ d.calls
  c1 : d.calls ≤ 100000000000
  cr : d.crash ≤ 9223372036854775807
  fa : d.fail ≤ 9223372036854775807
/-- files within their bounds -/
def DSt.Fit (x : DSt) : Prop := ∀ b ∈ x.ps, (x.F b).ok ∧ (x.F b).seen.length ≤ 1000000000 ∧ (x.F b).writes.length ≤ 1000000000 ∧ ∀ p ∈ (x.F b).writes, p.1 ≤ 1000000000 ∧ p.2.length ≤ 1000000000
def toC (x : DSt) (k : List UInt8) : Value × Int := if x.d.begin.2 ≠ 0 then (.pointer none, x.d.begin.2) else fileV x.d.begin.1 x.L k
theorem toC_found {x : DSt} {k : List UInt8} (h : (toC x k).2 = 0) : ∃ b, findB x.L k = some b ∧ toC x k = (fptr b, 0) := by
  unfold toC at h ⊢
  split at h
  · rename_i hc; exact absurd h hc
  · rename_i hc
    rw [if_neg hc]
    unfold fileV at h ⊢
    split at h
    · cases h
    · rename_i hd
      rw [if_neg hd]
      cases hf : findB x.L k with
      | none => rw [hf] at h; cases h
      | some b => exact ⟨b, rfl, rfl⟩
set_option maxHeartbeats 1000000 in
theorem toChange_any (w : World) (g nm su : Nat) (tu kn : Value) (n1 n2 : Nat) (x : DSt) (V : Nat → VT) (h : DAt w g nm su tu kn n1 n2 x V) (hd : x.d.In) (s : ByteArray) (hs : s.size ≤ maxLen) :
    Calls Try.prog 28 #[.pointer (some ⟨g, 0, none⟩), .string s] w fun e w' => e = .returned (.tuple #[(toC x s.data.toList).1, .int .i64 (toC x s.data.toList).2]) ∧ DAt w' g nm su tu kn n1 n2 { x with d := x.d.begin.1 } V ∧ Mod [g] w w' := by
  have HB := Lib.hid (begin_any w g x.d (.map (some nm)) (.map (some su)) tu kn h.row hd.c0 (by have := hd.c1; omega) hd.cr hd.fa)
  have HH := Lib.hid h
  have HT := Lib.hid (show toC x s.data.toList = if x.d.begin.2 ≠ 0 then (.pointer none, x.d.begin.2) else fileV x.d.begin.1 x.L s.data.toList from rfl)
  clear h hd
  generalize x.d.begin.2 = c at *
  by_cases hc : c = 0
  · rw [if_neg (by simp [hc])] at HT
    rw [HT.out]
    subst hc
    go_enter Try.func28, Try.ntmps28
    go_wp2_with fail
    refine HB.out.mono ?_
    rintro e w1 ⟨rfl, hr, hm⟩
    have hD := HH.out.setRow hm _ hr
    have HD := Lib.hid hD
    have HM := Lib.hid hm
    have HF := Lib.hid (file_any w1 g x.d.begin.1 nm su tu kn hr n1 x.L hD.names s hs)
    clear hr hm hD
    go_wp2_with (go_at_call 24; refine HF.out.mono ?_; rintro e w2 ⟨rfl, rfl⟩)
    go_ret2
    exact ⟨rfl, HD.out, HM.out⟩
  · have z0 : (c != 0) = true := by rw [bne_iff_ne]; exact hc
    rw [if_pos hc] at HT
    rw [HT.out]
    clear hc
    go_enter Try.func28, Try.ntmps28
    go_wp2_with fail
    refine HB.out.mono ?_
    rintro e w1 ⟨rfl, hr, hm⟩
    have HD := Lib.hid (HH.out.setRow hm _ hr)
    have HM := Lib.hid hm
    clear hr hm
    go_wp2_with fail
    go_ret2
    exact ⟨rfl, HD.out, HM.out⟩
def DSt.setF (x : DSt) (b : Nat) (f : FileD) : DSt := { x with F := fun c => if c = b then f else x.F c }
/-- behind Sync -/
def syncS (x : DSt) (k : List UInt8) : DSt × Int :=
  if (toC x k).2 ≠ 0 then ({ x with d := x.d.begin.1 }, (toC x k).2) else
  match findB x.L k with
  | some b => (DSt.setF { x with d := x.d.begin.1 } b (x.F b).sync, 0)
  | none => ({ x with d := x.d.begin.1 }, 0)
/-- a call's answer, and the disk behind it -/
def ActP (g nm su : Nat) (n1 n2 : Nat) (r : DSt × Int) (e : Ending) (w' : World) : Prop := e = .returned (.int .i64 r.2) ∧ ∃ tu kn V, DAt w' g nm su tu kn n1 n2 r.1 V
set_option maxHeartbeats 2000000 in
theorem sync_any (w : World) (g nm su : Nat) (tu kn : Value) (n1 n2 : Nat) (x : DSt) (V : Nat → VT) (h : DAt w g nm su tu kn n1 n2 x V) (hd : x.d.In) (hfit : x.Fit) (s : ByteArray) (hs : s.size ≤ maxLen) :
    Calls Try.prog 12 #[.pointer (some ⟨g, 0, none⟩), .string s] w (ActP g nm su n1 n2 (syncS x s.data.toList)) := by
  unfold ActP
  have HT := Lib.hid (toChange_any w g nm su tu kn n1 n2 x V h hd s hs)
  have HFit := Lib.hid hfit
  have HIn := Lib.hid h.inL
  clear h hd hfit
  by_cases hc : (toC x s.data.toList).2 = 0
  · obtain ⟨b, hb, ht⟩ := toC_found hc
    have HS := Lib.hid (show syncS x s.data.toList = (DSt.setF { x with d := x.d.begin.1 } b (x.F b).sync, 0) by unfold syncS; rw [if_neg (by simp [hc]), hb])
    rw [ht] at HT
    simp only [fptr] at HT
    have hbp := HIn.out _ _ hb
    obtain ⟨f1, f2, f3, f4⟩ := HFit.out b hbp
    have HFt := Lib.hid (And.intro f1 (And.intro f2 (And.intro f3 f4)))
    have HBp := Lib.hid hbp
    rw [HS.out]
    clear hc hb ht hbp f1 f2 f3 f4
    go_enter Try.func12, Try.ntmps12
    go_wp2_with fail
    refine HT.out.mono ?_
    rintro e w1 ⟨rfl, hD, hm⟩
    have hf := hD.files b HBp.out
    have heq := hf.eq
    have hwl : (V b).ws.length = (x.F b).writes.length := by
      have := congrArg List.length heq
      simpa using this.symm
    have HY := Lib.hid (fsync_any w1 b (x.F b) _ _ _ _ hf HFt.out.1 (fun m hm => by
      have hmem : (m.k, m.x) ∈ (x.F b).writes := by rw [show (x.F b).writes = _ from heq]; exact List.mem_map.2 ⟨m, hm, rfl⟩
      exact HFt.out.2.2.2 _ hmem) HFt.out.2.1 (by rw [hwl]; exact HFt.out.2.2.1))
    have HD := Lib.hid hD
    clear hD hm hf heq hwl
    unfold SyncP at HY
    go_wp2_with fail
    refine HY.out.mono ?_
    rintro e w2 ⟨rfl, vu', hf2, hm2, hv2⟩
    have HD2 := Lib.hid (HD.out.setFile b HBp.out hm2 _ ⟨(V b).vs, vu', .slice none 0 0, []⟩ hf2 (by
      intro q hq
      simp only [VT.all, fAll, fFoot, wrReads, List.mem_cons, List.mem_append, Option.mem_toList, List.flatMap_nil, List.not_mem_nil, or_false] at hq ⊢
      rcases hq with h1 | h1 | h1 | h1
      · exact .inl (.inl (.inl h1))
      · exact .inl (.inl (.inr (.inl h1)))
      · rcases hv2 q h1 with h2 | h2
        · exact .inl (.inl (.inr (.inr (.inl h2))))
        · exact .inr h2
      · cases h1))
    clear hf2 hm2 hv2
    go_wp2_with fail
    go_ret
    exact ⟨rfl, tu, kn, _, HD2.out⟩
  · have HS := Lib.hid (show syncS x s.data.toList = ({ x with d := x.d.begin.1 }, (toC x s.data.toList).2) by unfold syncS; rw [if_pos hc])
    rw [HS.out]
    generalize toC x s.data.toList = tc at *
    obtain ⟨v, c⟩ := tc
    have z0 : (c != 0) = true := by rw [bne_iff_ne]; exact hc
    simp only at HT
    clear hc
    go_enter Try.func12, Try.ntmps12
    go_wp2_with fail
    refine HT.out.mono ?_
    rintro e w1 ⟨rfl, hD, hm⟩
    have HD := Lib.hid hD
    clear hD hm
    go_wp2_with fail
    go_ret
    exact ⟨rfl, tu, kn, V, HD.out⟩
end Go.Proofs.Ytfcoaafmjllpfaa
