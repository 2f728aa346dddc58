/- The disk: Rename. -/
import Derived.Test.YtfcoaafmjllpfaaVfU
namespace Go.Proofs.Ytfcoaafmjllpfaa
open Go.ChangeShapes Go.WideShapes Go.ChangeAt Go.RowKit
set_option linter.unusedVariables false
set_option linter.unusedSimpArgs false

theorem fileV_found {d : DiskN} {L : NmL} {k : List UInt8} (h : (fileV d L k).2 = 0) : ∃ b, findB L k = some b ∧ fileV d L k = (fptr b, 0) := by
  unfold fileV at h ⊢
  split at h
  · cases h
  · rename_i hd
    rw [if_neg hd]
    cases hf : findB L k with
    | none => rw [hf] at h; cases h
    | some b => exact ⟨b, rfl, rfl⟩
theorem Act.same {w w' : World} {g : Nat} {x : DSt} {p : DPl} {d : DiskN} {c : Int} (h : DOk w' g p { x with d := d }) (hm : Mod [g] w w') : Act w g x p ({ x with d := d }, c) (.returned (.int .i64 c)) w' :=
  ⟨rfl, ⟨p, h, fun q hq => .inl hq⟩, hm.mono (fun q hq => by simp only [List.mem_singleton] at hq; subst hq; exact .inl DPl.all_g)⟩
theorem Act.turned {w w1 w2 : World} {g : Nat} {x : DSt} {p : DPl} {d : DiskN} (h : DOk w1 g p { x with d := d }) (hm : Mod [g] w w1) {m : TurnM} {b : Nat} (ht : TurnP w1 g d p.nm p.su p.tu p.kn p.n1 x.L x.ts m b w2) (hb : m.to_.size ≠ 0 → b ∈ x.ps) (hmp : m.p = .pointer none ∨ ∃ b ∈ x.ps, m.p = fptr b) : Act w g x p (turnS { x with d := d } m b, 0) (.returned (.int .i64 0)) w2 := by
  obtain ⟨tu', h2, htb⟩ := h.turned ht hb hmp
  refine ⟨rfl, ⟨{ p with tu := tu', n1 := p.n1 + 1 }, h2, ?_⟩, ?_⟩
  · exact DPl.all_tu (htb.imp id (fun ⟨q, h1, h2⟩ => ⟨q, h1, Nat.le_trans hm.size h2⟩))
  · refine (hm.mono ?_).trans (ht.mod.mono ?_)
    · intro q hq; simp only [List.mem_singleton] at hq; subst hq; exact .inl DPl.all_g
    · intro q hq; exact .inl (DPl.all_turn q hq)
/-- behind Rename -/
def renameS (x : DSt) (fr to_ : ByteArray) : DSt × Int :=
  if x.d.begin.2 ≠ 0 then ({ x with d := x.d.begin.1 }, x.d.begin.2) else
  if isNm (nums to_) = false then ({ x with d := x.d.begin.1 }, 3) else
  if (fileV x.d.begin.1 x.L fr.data.toList).2 ≠ 0 then ({ x with d := x.d.begin.1 }, (fileV x.d.begin.1 x.L fr.data.toList).2) else
  match findB x.L fr.data.toList with
  | some b => (turnS { x with d := x.d.begin.1 } ⟨fr, to_, fptr b⟩ b, 0)
  | none => ({ x with d := x.d.begin.1 }, 0)
set_option maxHeartbeats 4000000 in
theorem rename_any (w : World) (g : Nat) (p : DPl) (x : DSt) (h : DOk w g p x) (hd : x.d.In) (hn1 : p.n1 < maxLen) (hts : x.ts.length ≤ 1000000000) (fr to_ : ByteArray) (hs : fr.size ≤ 1000000000) (ht : to_.size ≤ 1000000000) :
    Calls Try.prog 20 #[.pointer (some ⟨g, 0, none⟩), .string fr, .string to_] w (Act w g x p (renameS x fr to_)) := by
  have HB := Lib.hid (begin_any w g x.d (.map (some p.nm)) (.map (some p.su)) p.tu p.kn h.row hd.c0 (by have := hd.c1; omega) hd.cr hd.fa)
  have HH := Lib.hid h
  have HN := Lib.hid (And.intro hn1 (And.intro hts (And.intro (show fr.size ≤ maxLen by simp only [maxLen]; omega) (show to_.size ≤ maxLen by simp only [maxLen]; omega))))
  have HI := Lib.hid (fun W => isName_any to_ W ht)
  clear h hd hn1 hts hs ht
  by_cases hc : x.d.begin.2 = 0
  · by_cases hi : isNm (nums to_) = true
    · by_cases hf : (fileV x.d.begin.1 x.L fr.data.toList).2 = 0
      · obtain ⟨b, hb, hv⟩ := fileV_found hf
        have e : renameS x fr to_ = (turnS { x with d := x.d.begin.1 } ⟨fr, to_, fptr b⟩ b, 0) := by unfold renameS; rw [if_neg (by simp [hc]), if_neg (by simp [hi]), if_neg (by simp [hf]), hb]
        have HBp := Lib.hid (HH.out.inL _ _ hb)
        have HV := Lib.hid hv
        rw [e]
        rw [hc] at HB
        rw [hi] at HI
        clear e hc hi hf hb hv
        go_enter Try.func20, Try.ntmps20
        go_wp2_with fail
        refine HB.out.mono ?_
        rintro e w1 ⟨rfl, hr, hm⟩
        have hD := HH.out.setRow hm _ hr
        have HM := Lib.hid hm
        have HD := Lib.hid hD
        have hF := file_any w1 g x.d.begin.1 p.nm p.su p.tu p.kn hr p.n1 x.L hD.names fr HN.out.2.2.1
        rw [HV.out] at hF
        simp only [fptr] at hF
        have HF := Lib.hid hF
        have HY := Lib.hid (turn_any w1 g x.d.begin.1 p.nm p.su p.tu p.kn hr p.n1 x.L hD.names HN.out.1 x.ts hD.turns HN.out.2.1 ⟨fr, to_, fptr b⟩ b HN.out.2.2.1 HN.out.2.2.2 (fun _ => rfl) rfl)
        simp only [fptr] at HY
        clear hr hm hD hF
        go_wp2_with fail
        refine (HI.out _).mono ?_
        rintro e w2 ⟨rfl, rfl⟩
        go_wp2_with fail
        refine HF.out.mono ?_
        rintro e w2 ⟨rfl, rfl⟩
        go_wp2_with fail
        refine HY.out.mono ?_
        rintro e w3 ⟨rfl, hT⟩
        have HT := Lib.hid hT
        clear hT
        go_wp2_with fail
        go_ret
        exact Act.turned HD.out HM.out HT.out (fun _ => HBp.out) (.inr ⟨b, HBp.out, rfl⟩)
      · have e : renameS x fr to_ = ({ x with d := x.d.begin.1 }, (fileV x.d.begin.1 x.L fr.data.toList).2) := by unfold renameS; rw [if_neg (by simp [hc]), if_neg (by simp [hi]), if_pos hf]
        rw [e]
        rw [hc] at HB
        rw [hi] at HI
        clear e hc hi
        go_enter Try.func20, Try.ntmps20
        go_wp2_with fail
        refine HB.out.mono ?_
        rintro e w1 ⟨rfl, hr, hm⟩
        have hD := HH.out.setRow hm _ hr
        have HM := Lib.hid hm
        have HD := Lib.hid hD
        have hF := file_any w1 g x.d.begin.1 p.nm p.su p.tu p.kn hr p.n1 x.L hD.names fr HN.out.2.2.1
        generalize fileV x.d.begin.1 x.L fr.data.toList = tc at *
        obtain ⟨v, c⟩ := tc
        have z0 : (c != 0) = true := by rw [bne_iff_ne]; exact hf
        simp only at hF
        have HF := Lib.hid hF
        clear hr hm hD hF hf
        go_wp2_with fail
        refine (HI.out _).mono ?_
        rintro e w2 ⟨rfl, rfl⟩
        go_wp2_with fail
        refine HF.out.mono ?_
        rintro e w2 ⟨rfl, rfl⟩
        go_wp2_with fail
        go_ret
        exact Act.same HD.out HM.out
    · have hi' : isNm (nums to_) = false := by simpa using hi
      have e : renameS x fr to_ = ({ x with d := x.d.begin.1 }, 3) := by unfold renameS; rw [if_neg (by simp [hc]), if_pos hi']
      rw [e]
      rw [hc] at HB
      rw [hi'] at HI
      clear e hc hi hi'
      go_enter Try.func20, Try.ntmps20
      go_wp2_with fail
      refine HB.out.mono ?_
      rintro e w1 ⟨rfl, hr, hm⟩
      have hD := HH.out.setRow hm _ hr
      have HM := Lib.hid hm
      have HD := Lib.hid hD
      clear hr hm hD
      go_wp2_with fail
      refine (HI.out _).mono ?_
      rintro e w2 ⟨rfl, rfl⟩
      go_wp2_with fail
      go_ret
      exact Act.same HD.out HM.out
  · have e : renameS x fr to_ = ({ x with d := x.d.begin.1 }, x.d.begin.2) := by unfold renameS; rw [if_pos hc]
    rw [e]
    clear e
    generalize x.d.begin.2 = c at *
    have z0 : (c != 0) = true := by rw [bne_iff_ne]; exact hc
    clear hc
    go_enter Try.func20, Try.ntmps20
    go_wp2_with fail
    refine HB.out.mono ?_
    rintro e w1 ⟨rfl, hr, hm⟩
    have hD := HH.out.setRow hm _ hr
    have HM := Lib.hid hm
    have HD := Lib.hid hD
    clear hr hm hD
    go_wp2_with fail
    go_ret
    exact Act.same HD.out HM.out
end Go.Proofs.Ytfcoaafmjllpfaa
