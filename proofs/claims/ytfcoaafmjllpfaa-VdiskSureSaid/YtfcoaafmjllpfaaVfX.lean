/- The disk: a new file; Create. -/
import Derived.Test.YtfcoaafmjllpfaaVfW
import Derived.Maps.OwnSet
namespace Go.Proofs.Ytfcoaafmjllpfaa
open Go.ChangeShapes Go.WideShapes Go.ChangeAt Go.RowKit
set_option linter.unusedVariables false
set_option linter.unusedSimpArgs false

/-- one more file, in block fb -/
def DSt.more (x : DSt) (fb : Nat) (l : List Int) : DSt := { x with d := { x.d with made := x.d.made + 1 }, ps := x.ps ++ [fb], F := fun c => if c = fb then ⟨x.d.made, l, l, []⟩ else x.F c }
theorem DAt.more {w w' : World} {g nm su : Nat} {tu kn : Value} {n1 n2 : Nat} {x : DSt} {V : Nat → VT} (h : DAt w g nm su tu kn n1 n2 x V) {l : List Int} {fb : Nat} (hp : NewP w g x.d (.map (some nm)) (.map (some su)) tu kn x.ps l fb w') :
    ∃ kn' v, DAt w' g nm su tu kn' n1 n2 (x.more fb l) (fun c => if c = fb then v else V c) ∧ (kn'.ownBlock = kn.ownBlock ∨ ∃ q, kn'.ownBlock = some q ∧ w.heap.size ≤ q) ∧ (∀ q ∈ v.all fb, w.heap.size ≤ q) ∧ w.heap.size ≤ fb := by
  obtain ⟨kn', hr, hk, hkb⟩ := hp.row
  obtain ⟨vs, vu, hf, hfr⟩ := hp.file
  have hm := hp.mod
  have hG := h.isG
  have hfb : w.heap.size ≤ fb := hfr fb (by simp [fAll, fFoot])
  have hnew : ∀ c ∈ x.ps, c ≠ fb := by
    rintro c hc rfl
    have := (h.files c hc).lt c (by simp [fAll, fFoot])
    omega
  have hmem : ∀ q, q ∈ g :: kn.ownBlock.toList → q = g ∨ kn.ownBlock = some q := by
    intro q hq
    simpa only [List.mem_cons, Option.mem_toList] using hq
  refine ⟨kn', ⟨vs, vu, .slice none 0 0, []⟩, ⟨hr, h.names.mod hm ?_, h.sure.mod hm ?_, h.turns.mod hm ?_, hk, h.ne, ?_, ?_, ?_, ?_, ?_, ?_⟩, hkb, hfr, hfb⟩
  · intro hq
    rcases hmem _ hq with rfl | h1
    · exact h.names.notT hG
    · exact h.names.notT (owns_isT h.known h1)
  · intro hq
    rcases hmem _ hq with rfl | h1
    · exact h.sure.notT hG
    · exact h.sure.notT (owns_isT h.known h1)
  · intro k hk2 hq
    rcases hmem _ hq with rfl | h1
    · exact (owns_isT h.turns hk2).ne (by decide) hG
    · exact (owns_isT h.turns hk2).ne (by decide) (owns_isT h.known h1)
  · intro c hc
    rcases List.mem_append.1 hc with h1 | h1
    · have he := hnew c h1
      simp only [DSt.more, he, if_false]
      refine (h.files c h1).mod hm ?_
      intro q hq hq2
      rcases hmem _ hq2 with rfl | h2
      · exact (h.files c h1).other hG (by decide) (by decide) (by decide) hq
      · exact (h.files c h1).other (owns_isT h.known h2) (by decide) (by decide) (by decide) hq
    · have he := List.mem_singleton.1 h1
      subst he
      simp only [DSt.more, if_true]
      exact hf
  · intro c hc c' hc' hne q hq
    rcases List.mem_append.1 hc with h1 | h1
    · have he := hnew c h1
      simp only [he, if_false] at hq
      rcases List.mem_append.1 hc' with h2 | h2
      · have he' := hnew c' h2
        simp only [he', if_false]
        exact h.apart c h1 c' h2 hne q hq
      · have he' := List.mem_singleton.1 h2
        subst he'
        simp only [if_true]
        intro h3
        have h4 := hfr q h3
        have h5 := (h.files c h1).lt q hq
        omega
    · have he := List.mem_singleton.1 h1
      subst he
      simp only [if_true] at hq
      rcases List.mem_append.1 hc' with h2 | h2
      · have he' := hnew c' h2
        simp only [he', if_false]
        intro h3
        have h4 := hfr q hq
        have h5 := (h.files c' h2).lt q h3
        omega
      · exact absurd (List.mem_singleton.1 h2).symm hne
  · show (x.ps ++ [fb]).Nodup
    rw [List.nodup_append]
    refine ⟨h.dup, by simp, ?_⟩
    intro a ha b hb
    rw [List.mem_singleton.1 hb]
    exact hnew a ha
  · exact fun k b hb => List.mem_append_left _ (h.inL k b hb)
  · exact fun k b hb => List.mem_append_left _ (h.inS k b hb)
  · intro t ht
    rcases h.inT t ht with h1 | ⟨b, h1, h2⟩
    · exact .inl h1
    · exact .inr ⟨b, List.mem_append_left _ h1, h2⟩
theorem DPl.all_more {w : World} {p : DPl} {g : Nat} {ps : List Nat} {kn' : Value} {v : VT} {fb : Nat} (hk : kn'.ownBlock = p.kn.ownBlock ∨ ∃ q, kn'.ownBlock = some q ∧ w.heap.size ≤ q) (hv : ∀ q ∈ v.all fb, w.heap.size ≤ q) :
    ∀ q ∈ ({ p with kn := kn', V := fun c => if c = fb then v else p.V c } : DPl).all g (ps ++ [fb]), q ∈ p.all g ps ∨ w.heap.size ≤ q := by
  intro q hq
  unfold DPl.all at hq ⊢
  simp only [List.mem_cons, List.mem_append, Option.mem_toList, List.mem_flatMap] at hq ⊢
  rcases hq with h1 | h1 | h1 | h1 | h1 | ⟨b, hb, h1⟩
  · exact .inl (.inl h1)
  · exact .inl (.inr (.inl h1))
  · exact .inl (.inr (.inr (.inl h1)))
  · exact .inl (.inr (.inr (.inr (.inl h1))))
  · rcases hk with h2 | ⟨q', h2, h3⟩
    · rw [h2] at h1
      exact .inl (.inr (.inr (.inr (.inr (.inl h1)))))
    · have : q' = q := by simpa [h2] using h1
      exact .inr (by omega)
  · by_cases he : b = fb
    · subst he
      simp only [if_true] at h1
      exact .inr (hv q h1)
    · simp only [he, if_false] at h1
      rcases hb with h2 | h2
      · exact .inl (.inr (.inr (.inr (.inr (.inr ⟨b, h2, h1⟩)))))
      · exact absurd h2 (by simpa using he)
theorem DPl.all_kn {p : DPl} {g : Nat} {ps : List Nat} : ∀ q ∈ g :: p.kn.ownBlock.toList, q ∈ p.all g ps := by
  intro q hq
  unfold DPl.all
  simp only [List.mem_cons, List.mem_append] at hq ⊢
  rcases hq with h1 | h1
  · exact .inl h1
  · exact .inr (.inr (.inr (.inr (.inl h1))))
/-- behind Create, where the new file lies in block fb -/
def createS (x : DSt) (s : ByteArray) (fb : Nat) : DSt × Int :=
  if x.d.begin.2 ≠ 0 then ({ x with d := x.d.begin.1 }, x.d.begin.2) else
  if isNm (nums s) = false then ({ x with d := x.d.begin.1 }, 3) else
  match findB x.L s.data.toList with
  | some _ => ({ x with d := x.d.begin.1 }, 8)
  | none => if 1024 ≤ x.L.length then ({ x with d := x.d.begin.1 }, 6) else (turnS (DSt.more { x with d := x.d.begin.1 } fb []) ⟨ByteArray.empty, s, fptr fb⟩ fb, 0)
theorem begin_made (d : DiskN) : d.begin.1.made = d.made := by
  unfold DiskN.begin
  repeat' split
  all_goals rfl
set_option maxRecDepth 100000 in
set_option maxHeartbeats 4000000 in
theorem create_any (w : World) (g : Nat) (p : DPl) (x : DSt) (h : DOk w g p x) (hd : x.d.In) (hn1 : p.n1 < maxLen) (hts : x.ts.length ≤ 1000000000) (hm0 : 0 ≤ x.d.made) (hm1 : x.d.made ≤ 1000000000000) (hps : x.ps.length ≤ 1000000000) (s : ByteArray) (hs : s.size ≤ 1000000000) :
    Calls Try.prog 10 #[.pointer (some ⟨g, 0, none⟩), .string s] w fun e w' => ∃ fb, Act w g x p (createS x s fb) e w' := by
  have HB := Lib.hid (begin_any w g x.d (.map (some p.nm)) (.map (some p.su)) p.tu p.kn h.row hd.c0 (by have := hd.c1; omega) hd.cr hd.fa)
  have HH := Lib.hid h
  have HN := Lib.hid (And.intro hn1 (And.intro hts (show s.size ≤ maxLen by simp only [maxLen]; omega)))
  have HMd := Lib.hid (show 0 ≤ x.d.begin.1.made ∧ x.d.begin.1.made ≤ 1000000000000 ∧ x.ps.length ≤ 1000000000 by rw [begin_made]; exact ⟨hm0, hm1, hps⟩)
  have HI := Lib.hid (fun W => isName_any s W hs)
  clear h hd hn1 hts hs hm0 hm1 hps
  by_cases hc : x.d.begin.2 = 0
  · by_cases hi : isNm (nums s) = true
    · rw [hc] at HB
      rw [hi] at HI
      cases hf : findB x.L s.data.toList with
      | some b =>
        have e : ∀ fb, createS x s fb = ({ x with d := x.d.begin.1 }, 8) := fun fb => by unfold createS; rw [if_neg (by simp [hc]), if_neg (by simp [hi]), hf]
        simp only [e]
        clear e hc hi
        go_enter Try.func10, Try.ntmps10
        go_wp2_with fail
        refine HB.out.mono ?_
        rintro e w1 ⟨rfl, hr, hm⟩
        have hD := HH.out.setRow hm _ hr
        have HM := Lib.hid hm
        have HD := Lib.hid hD
        have hl := hD.names.look s HN.out.2.2
        unfold foundV at hl
        simp only [hf, fptr] at hl
        have k1 : w1.cell? ⟨g, 1, none⟩ = some (.map (some p.nm)) := blk_cell hr 1
        clear hr hm hD hf
        go_wp2_with fail
        refine (HI.out _).mono ?_
        rintro e w2 ⟨rfl, rfl⟩
        go_wp2_with fail
        go_ret
        exact ⟨0, Act.same HD.out HM.out⟩
      | none =>
        by_cases hz : 1024 ≤ x.L.length
        · have e : ∀ fb, createS x s fb = ({ x with d := x.d.begin.1 }, 6) := fun fb => by unfold createS; rw [if_neg (by simp [hc]), if_neg (by simp [hi]), hf]; simp only; rw [if_pos hz]
          simp only [e]
          clear e hc hi
          go_enter Try.func10, Try.ntmps10
          go_wp2_with fail
          refine HB.out.mono ?_
          rintro e w1 ⟨rfl, hr, hm⟩
          have hD := HH.out.setRow hm _ hr
          have HM := Lib.hid hm
          have HD := Lib.hid hD
          have hl := hD.names.look s HN.out.2.2
          unfold foundV at hl
          simp only [hf] at hl
          have k1 : w1.cell? ⟨g, 1, none⟩ = some (.map (some p.nm)) := blk_cell hr 1
          clear hr hm hD hf
          go_wp2_with fail
          refine (HI.out _).mono ?_
          rintro e w2 ⟨rfl, rfl⟩
          go_wp2_with (at_len; refine wpList_len_own _ rfl _ 50 rfl 9 57 Try.underlying50 ptrE p.nm p.n1 (mD x.L) rfl HD.out.names ?_; rw [mD_size])
          go_ret
          exact ⟨0, Act.same HD.out HM.out⟩
        · have e : ∀ fb, createS x s fb = (turnS (DSt.more { x with d := x.d.begin.1 } fb []) ⟨ByteArray.empty, s, fptr fb⟩ fb, 0) := fun fb => by unfold createS; rw [if_neg (by simp [hc]), if_neg (by simp [hi]), hf]; simp only; rw [if_neg hz]
          simp only [e]
          clear e hc hi
          go_enter Try.func10, Try.ntmps10
          go_wp2_with fail
          refine HB.out.mono ?_
          rintro e w1 ⟨rfl, hr, hm⟩
          have hD := HH.out.setRow hm _ hr
          have HM := Lib.hid hm
          have HD := Lib.hid hD
          have hl := hD.names.look s HN.out.2.2
          unfold foundV at hl
          simp only [hf] at hl
          have k1 : w1.cell? ⟨g, 1, none⟩ = some (.map (some p.nm)) := blk_cell hr 1
          have HF := Lib.hid (newFile_any w1 g x.d.begin.1 (.map (some p.nm)) (.map (some p.su)) p.tu p.kn x.ps hr hD.known HMd.out.1 HMd.out.2.1 HMd.out.2.2 none 0 0 [] ⟨fun v hv => (by cases hv), .inl rfl⟩ rfl (by simp))
          simp only [fptr] at HF
          clear hr hm hD hf
          go_wp2_with fail
          refine (HI.out _).mono ?_
          rintro e w2 ⟨rfl, rfl⟩
          go_wp2_with (at_len; refine wpList_len_own _ rfl _ 50 rfl 9 57 Try.underlying50 ptrE p.nm p.n1 (mD x.L) rfl HD.out.names ?_; rw [mD_size])
          refine HF.out.mono ?_
          rintro e w3 ⟨fb, rfl, hp⟩
          obtain ⟨kn', v, hD3, hkb, hvb, hfb⟩ := HD.out.more hp
          have HM3 := Lib.hid hp.mod
          have HY := Lib.hid (turn_any w3 g _ p.nm p.su p.tu kn' hD3.row p.n1 x.L hD3.names HN.out.1 x.ts hD3.turns HN.out.2.1 ⟨ByteArray.empty, s, fptr fb⟩ fb (by simp [maxLen]) HN.out.2.2 (fun _ => rfl) rfl)
          have HD3 := Lib.hid hD3
          have HKb := Lib.hid hkb
          have HVb := Lib.hid hvb
          clear hp hD3 hkb hvb hfb
          simp only [fptr] at HY
          go_wp2_with fail
          refine HY.out.mono ?_
          rintro e w4 ⟨rfl, hT⟩
          have HT := Lib.hid hT
          clear hT
          go_wp2_with fail
          go_ret
          obtain ⟨tu', h4, htb⟩ := HD3.out.turned HT.out (fun _ => List.mem_append_right _ (List.mem_singleton.2 rfl)) (.inr ⟨fb, List.mem_append_right _ (List.mem_singleton.2 rfl), rfl⟩)
          have hs1 := HM.out.size
          have hs3 : w.heap.size ≤ w3.heap.size := Nat.le_trans hs1 HM3.out.size
          have hq3 : ∀ q ∈ ({ p with kn := kn', V := fun c => if c = fb then v else p.V c } : DPl).all g (x.ps ++ [fb]), q ∈ p.all g x.ps ∨ w.heap.size ≤ q := DPl.all_more (HKb.out.imp id (fun ⟨q, h1, h2⟩ => ⟨q, h1, Nat.le_trans hs1 h2⟩)) (fun q hq => Nat.le_trans hs1 (HVb.out q hq))
          refine ⟨fb, rfl, ⟨{ p with kn := kn', V := fun c => if c = fb then v else p.V c, tu := tu', n1 := p.n1 + 1 }, h4, ?_⟩, ?_⟩
          · intro q hq
            rcases DPl.all_tu (w := w3) (p := { p with kn := kn', V := fun c => if c = fb then v else p.V c }) htb q hq with h1 | h1
            · exact hq3 q h1
            · exact .inr (Nat.le_trans hs3 h1)
          · refine ((HM.out.mono ?_).trans (HM3.out.mono ?_)).trans' HT.out.mod ?_
            · intro q hq; simp only [List.mem_singleton] at hq; subst hq; exact .inl DPl.all_g
            · intro q hq; exact .inl (DPl.all_kn q hq)
            · intro q hq
              exact hq3 q (DPl.all_turn (p := { p with kn := kn', V := fun c => if c = fb then v else p.V c }) q hq)
    · have hi' : isNm (nums s) = false := by simpa using hi
      have e : ∀ fb, createS x s fb = ({ x with d := x.d.begin.1 }, 3) := fun fb => by unfold createS; rw [if_neg (by simp [hc]), if_pos hi']
      simp only [e]
      rw [hc] at HB
      rw [hi'] at HI
      clear e hc hi hi'
      go_enter Try.func10, Try.ntmps10
      go_wp2_with fail
      refine HB.out.mono ?_
      rintro e w1 ⟨rfl, hr, hm⟩
      have hD := HH.out.setRow hm _ hr
      have HM := Lib.hid hm
      have HD := Lib.hid hD
      clear hr hm hD
      go_wp2_with fail
      refine (HI.out _).mono ?_
      rintro e w2 ⟨rfl, rfl⟩
      go_wp2_with fail
      go_ret
      exact ⟨0, Act.same HD.out HM.out⟩
  · have e : ∀ fb, createS x s fb = ({ x with d := x.d.begin.1 }, x.d.begin.2) := fun fb => by unfold createS; rw [if_pos hc]
    simp only [e]
    clear e
    generalize x.d.begin.2 = c at *
    have z0 : (c != 0) = true := by rw [bne_iff_ne]; exact hc
    clear hc
    go_enter Try.func10, Try.ntmps10
    go_wp2_with fail
    refine HB.out.mono ?_
    rintro e w1 ⟨rfl, hr, hm⟩
    have hD := HH.out.setRow hm _ hr
    have HM := Lib.hid hm
    have HD := Lib.hid hD
    clear hr hm hD
    go_wp2_with fail
    go_ret
    exact ⟨0, Act.same HD.out HM.out⟩
end Go.Proofs.Ytfcoaafmjllpfaa
