import Derived.Test.YtfcoaafmjllpfaaVgN
import Derived.Test.YtfcoaafmjllpfaaVhQ
/- The disk: each call, and which blocks it turns. -/
namespace Go.Proofs.Ytfcoaafmjllpfaa
open Go.ChangeShapes Go.WideShapes Go.ChangeAt Go.RowKit
set_option linter.unusedVariables false
set_option linter.unusedSimpArgs false

/-- a block that a disk may have -/
def DKind (w : World) (q : Nat) : Prop := IsT 55 w q ∨ IsT 68 w q ∨ IsT 57 w q ∨ IsT 64 w q ∨ IsT 5 w q ∨ IsT 94 w q ∨ ∃ n L, Names w q n L
theorem DKind.notT {w : World} {q : Nat} (h : DKind w q) {t : TypeId} (h1 : 55 ≠ t) (h2 : 68 ≠ t) (h3 : 57 ≠ t) (h4 : 64 ≠ t) (h5 : 5 ≠ t) (h6 : 94 ≠ t) : ¬ IsT t w q := by
  rcases h with h | h | h | h | h | h | ⟨n, L, h⟩
  · exact h.ne h1
  · exact h.ne h2
  · exact h.ne h3
  · exact h.ne h4
  · exact h.ne h5
  · exact h.ne h6
  · exact h.notT
theorem DOk_kind {w : World} {g : Nat} {p : DPl} {x : DSt} (h : DOk w g p x) : ∀ q ∈ p.all g x.ps, DKind w q := by
  intro q hq
  simp only [DPl.all, List.mem_cons, List.mem_append, Option.mem_toList, List.mem_flatMap] at hq
  rcases hq with rfl | rfl | rfl | h1 | h1 | ⟨b, hb, h1⟩
  · exact .inl h.isG
  · exact .inr (.inr (.inr (.inr (.inr (.inr ⟨_, _, h.names⟩)))))
  · exact .inr (.inr (.inr (.inr (.inr (.inr ⟨_, _, h.sure⟩)))))
  · exact .inr (.inl (owns_isT h.turns h1))
  · exact .inr (.inr (.inl (owns_isT h.known h1)))
  · rcases (h.files b hb).types q h1 with k | k | k
    · exact .inr (.inr (.inr (.inl k)))
    · exact .inr (.inr (.inr (.inr (.inl k))))
    · exact .inr (.inr (.inr (.inr (.inr (.inl k)))))
/-- only blocks that a disk may have are turned -/
def DM (w w' : World) : Prop := ∃ F, Mod F w w' ∧ ∀ q ∈ F, DKind w q
theorem DM.ofAct {w w' : World} {g : Nat} {p : DPl} {x : DSt} (h : DOk w g p x) {r : DSt × Int} {e : Ending} (ha : Act w g x p r e w') : DM w w' := ⟨_, ha.mod, DOk_kind h⟩
section
variable {w0 w : World} {g : Nat} {x : DSt} {N : Nat}
theorem create_d2 (h : DD w0 w g x) (hi : Inv N x) (hN : N ≤ 90000) (s : ByteArray) (hs : s.size ≤ 1000000000) :
    Calls Try.prog 10 #[.pointer (some ⟨g, 0, none⟩), .string s] w fun e w' => ∃ fb, e = .returned (.int .i64 (createS x s fb).2) ∧ DD w0 w' g (createS x s fb).1 ∧ Inv (N + 3) (createS x s fb).1 ∧ DM w w' := by
  obtain ⟨p, h1, h2, h3, h4, h5⟩ := h
  refine (create_any w g p x h1 (hi.in (by omega)) (by rw [h2]; have := hi.lenL; simp only [maxLen]; omega) (by have := hi.tl; omega) hi.m0 (by have := hi.m1; omega) (by have := hi.pl; omega) s hs).mono ?_
  rintro e w' ⟨fb, ha⟩
  obtain ⟨e1, hd⟩ := DD.act h4 h5 ha
  have hdm := DM.ofAct h1 ha
  exact ⟨fb, e1, hd, hi.create s (by simp only [maxLen]; omega) fb hd.dup, hdm⟩
theorem append_d2 (h : DD w0 w g x) (hi : Inv N x) (hN : N ≤ 90000) (s : ByteArray) (hs : s.size ≤ 1000000000) (ba : Option Addr) (bn bc : Nat) (xs : List Int) (hx : Cells8 w ba xs) (hbn : bn = xs.length) (hxl : xs.length ≤ 1000000000) (hba : xs ≠ [] → ∀ y, ba = some y → y.block ≠ g) :
    Calls Try.prog 11 #[.pointer (some ⟨g, 0, none⟩), .string s, .slice ba bn bc] w fun e w' => e = .returned (.int .i64 (appendS x s.data.toList xs).2) ∧ DD w0 w' g (appendS x s.data.toList xs).1 ∧ Inv (N + 3) (appendS x s.data.toList xs).1 ∧ DM w w' := by
  obtain ⟨p, h1, h2, h3, h4, h5⟩ := h
  refine (append_any w g p x h1 (hi.in (by omega)) (hi.fit (by omega)) (hi.used (by omega)) s (by simp only [maxLen]; omega) ba bn bc xs hx hbn hxl hba).mono ?_
  intro e w' ha
  obtain ⟨e1, hd⟩ := DD.act h4 h5 ha
  have hdm := DM.ofAct h1 ha
  exact ⟨e1, hd, hi.append _ _, hdm⟩
theorem pwrite_d2 (h : DD w0 w g x) (hi : Inv N x) (hN : N ≤ 90000) (s : ByteArray) (hs : s.size ≤ 1000000000) (n : Int) (ba : Option Addr) (bn bc : Nat) (xs : List Int) (hx : Cells8 w ba xs) (hbn : bn = xs.length) (hxl : xs.length ≤ 1000000000) (hba : xs ≠ [] → ∀ y, ba = some y → y.block ≠ g) :
    Calls Try.prog 37 #[.pointer (some ⟨g, 0, none⟩), .string s, .int .i64 n, .slice ba bn bc] w fun e w' => e = .returned (.int .i64 (pwriteS x s.data.toList n xs).2) ∧ DD w0 w' g (pwriteS x s.data.toList n xs).1 ∧ Inv (N + 3) (pwriteS x s.data.toList n xs).1 ∧ DM w w' := by
  obtain ⟨p, h1, h2, h3, h4, h5⟩ := h
  refine (pwrite_any w g p x h1 (hi.in (by omega)) (hi.fit (by omega)) (hi.used (by omega)) s (by simp only [maxLen]; omega) n ba bn bc xs hx hbn hxl hba).mono ?_
  intro e w' ha
  obtain ⟨e1, hd⟩ := DD.act h4 h5 ha
  have hdm := DM.ofAct h1 ha
  exact ⟨e1, hd, hi.pwrite _ _ _, hdm⟩
theorem sync_d2 (h : DD w0 w g x) (hi : Inv N x) (hN : N ≤ 90000) (s : ByteArray) (hs : s.size ≤ 1000000000) :
    Calls Try.prog 12 #[.pointer (some ⟨g, 0, none⟩), .string s] w fun e w' => e = .returned (.int .i64 (syncS x s.data.toList).2) ∧ DD w0 w' g (syncS x s.data.toList).1 ∧ Inv (N + 3) (syncS x s.data.toList).1 ∧ DM w w' := by
  obtain ⟨p, h1, h2, h3, h4, h5⟩ := h
  refine (sync_act w g p x h1 (hi.in (by omega)) (hi.fit (by omega)) s (by simp only [maxLen]; omega)).mono ?_
  intro e w' ha
  obtain ⟨e1, hd⟩ := DD.act h4 h5 ha
  have hdm := DM.ofAct h1 ha
  exact ⟨e1, hd, hi.sync _, hdm⟩
theorem rename_d2 (h : DD w0 w g x) (hi : Inv N x) (hN : N ≤ 90000) (fr to_ : ByteArray) (hf : fr.size ≤ 1000000000) (ht : to_.size ≤ 1000000000) :
    Calls Try.prog 20 #[.pointer (some ⟨g, 0, none⟩), .string fr, .string to_] w fun e w' => e = .returned (.int .i64 (renameS x fr to_).2) ∧ DD w0 w' g (renameS x fr to_).1 ∧ Inv (N + 3) (renameS x fr to_).1 ∧ DM w w' := by
  obtain ⟨p, h1, h2, h3, h4, h5⟩ := h
  refine (rename_any w g p x h1 (hi.in (by omega)) (by rw [h2]; have := hi.lenL; simp only [maxLen]; omega) (by have := hi.tl; omega) fr to_ hf ht).mono ?_
  intro e w' ha
  obtain ⟨e1, hd⟩ := DD.act h4 h5 ha
  have hdm := DM.ofAct h1 ha
  exact ⟨e1, hd, hi.rename _ _ (by simp only [maxLen]; omega) (by simp only [maxLen]; omega), hdm⟩
theorem unlink_d2 (h : DD w0 w g x) (hi : Inv N x) (hN : N ≤ 90000) (s : ByteArray) (hs : s.size ≤ 1000000000) :
    Calls Try.prog 41 #[.pointer (some ⟨g, 0, none⟩), .string s] w fun e w' => e = .returned (.int .i64 (unlinkS x s).2) ∧ DD w0 w' g (unlinkS x s).1 ∧ Inv (N + 3) (unlinkS x s).1 ∧ DM w w' := by
  obtain ⟨p, h1, h2, h3, h4, h5⟩ := h
  refine (unlink_any w g p x h1 (hi.in (by omega)) (by rw [h2]; have := hi.lenL; simp only [maxLen]; omega) (by have := hi.tl; omega) s (by simp only [maxLen]; omega)).mono ?_
  intro e w' ha
  obtain ⟨e1, hd⟩ := DD.act h4 h5 ha
  have hdm := DM.ofAct h1 ha
  exact ⟨e1, hd, hi.unlink _ (by simp only [maxLen]; omega), hdm⟩
theorem syncDir_d2 (h : DD w0 w g x) (hi : Inv N x) (hN : N ≤ 90000) :
    Calls Try.prog 13 #[.pointer (some ⟨g, 0, none⟩)] w fun e w' => e = .returned (.int .i64 (syncDirS x).2) ∧ DD w0 w' g (syncDirS x).1 ∧ Inv (N + 3) (syncDirS x).1 ∧ DM w w' := by
  obtain ⟨p, h1, h2, h3, h4, h5⟩ := h
  refine (syncDir_any w g p x h1 (hi.in (by omega)) (hi.keep (by omega)) (by rw [h3]; have := hi.tsl; simp only [maxLen]; omega)).mono ?_
  intro e w' ha
  obtain ⟨e1, hd⟩ := DD.act h4 h5 ha
  have hdm := DM.ofAct h1 ha
  exact ⟨e1, hd, hi.syncDir, hdm⟩
theorem boot_d2 (h : DD w0 w g x) (hi : Inv N x) (hN : N ≤ 90000) (turns : Int) (ht0 : -9223372036854775808 ≤ turns) (ht1 : turns ≤ 9223372036854775807) (ka : Option Addr) (kc : Nat) (keep : List Int) (hK : KeepAt w0 ka keep) (hkc : keep.length ≤ kc) (hkl : kc ≤ 9223372036854775807) (hd : keep ≠ [] → ∀ q ∈ blocks ka, q < w0.heap.size) :
    Calls Try.prog 18 #[.pointer (some ⟨g, 0, none⟩), .int .i64 turns, .slice ka keep.length kc] w fun e w' => e = .returned (.int .i64 (bootS x turns keep).2) ∧ DD w0 w' g (bootS x turns keep).1 ∧ Inv N (bootS x turns keep).1 ∧ DM w w' := by
  obtain ⟨p, h1, h2, h3, h4, h5⟩ := h
  refine (boot_any w g p x h1 (hi.fitK (by omega)) (hi.keep (by omega)) (by rw [h3]; have := hi.tsl; simp only [maxLen]; omega) (by have := hi.pl; omega) turns ht0 ht1 ka kc keep (hK.mod h5 (by simp)) hkc hkl (fun hne q hq => ⟨Nat.lt_of_lt_of_le (hd hne q hq) h5.size, fun h6 => by have := hd hne q hq; have := h4 q h6; omega⟩)).mono ?_
  intro e w' ha
  obtain ⟨e1, hd⟩ := DD.act h4 h5 ha
  have hdm := DM.ofAct h1 ha
  exact ⟨e1, hd, hi.boot _ _, hdm⟩
theorem crash_d2 (h : DD w0 w g x) (hi : Inv N x) (n : Int) (hn : n ≤ 9223372036854775807) :
    Calls Try.prog 16 #[.pointer (some ⟨g, 0, none⟩), .int .i64 n] w fun e w' => e = .returned (.tuple #[]) ∧ DD w0 w' g { x with d := { x.d with crash := n } } ∧ Inv N { x with d := { x.d with crash := n } } ∧ DM w w' := by
  obtain ⟨p, h1, h2, h3, h4, h5⟩ := h
  refine (crash_any w g x.d _ _ _ _ h1.row n).mono ?_
  rintro e w' ⟨e1, hr, hm⟩
  exact ⟨e1, DD.make (h1.setRow hm _ hr) h4 (h5.trans' hm (fun q hq => by simp only [List.mem_singleton] at hq; subst hq; exact .inr (h4 q DPl.all_g))), hi.crash n hn, ⟨[g], hm, fun q hq => by simp only [List.mem_singleton] at hq; subst hq; exact .inl h1.isG⟩⟩
theorem fail_d2 (h : DD w0 w g x) (hi : Inv N x) (n c : Int) (hn : n ≤ 9223372036854775807) :
    Calls Try.prog 44 #[.pointer (some ⟨g, 0, none⟩), .int .i64 n, .int .i64 c] w fun e w' => e = .returned (.tuple #[]) ∧ DD w0 w' g { x with d := x.d.failing n c } ∧ Inv N { x with d := x.d.failing n c } ∧ DM w w' := by
  obtain ⟨p, h1, h2, h3, h4, h5⟩ := h
  refine (fail_any w g x.d _ _ _ _ h1.row n c).mono ?_
  rintro e w' ⟨e1, hr, hm⟩
  exact ⟨e1, DD.make (h1.setRow hm _ hr) h4 (h5.trans' hm (fun q hq => by simp only [List.mem_singleton] at hq; subst hq; exact .inr (h4 q DPl.all_g))), hi.failing n c hn, ⟨[g], hm, fun q hq => by simp only [List.mem_singleton] at hq; subst hq; exact .inl h1.isG⟩⟩
end
end Go.Proofs.Ytfcoaafmjllpfaa

/- The disk: a file that was synced, whatever is done with others, plain. -/
namespace Go.Proofs.Ytfcoaafmjllpfaa
open Go.ChangeShapes Go.WideShapes Go.ChangeAt Go.RowKit
set_option linter.unusedVariables false
set_option linter.unusedSimpArgs false

theorem findB_del_other {L : NmL} {k k' : List UInt8} (h : k ≠ k') : findB (delB L k') k = findB L k := by
  unfold findB delB
  induction L with
  | nil => rfl
  | cons y r ih =>
    by_cases hy : y.1 = k'
    · have h0 : (y.1 == k) = false := by rw [hy]; simpa using Ne.symm h
      rw [List.filter_cons, if_neg (by simp [hy]), List.find?_cons, h0]
      exact ih
    · rw [List.filter_cons, if_pos (by simp [hy]), List.find?_cons, List.find?_cons]
      cases (y.1 == k) with
      | true => rfl
      | false => exact ih
theorem findB_ins_other {x : List UInt8 × Nat} {k : List UInt8} (h : x.1 ≠ k) : ∀ L : NmL, findB (insB x L) k = findB L k
  | [] => by
    have h0 : (x.1 == k) = false := by simpa using h
    simp [insB, findB, h0]
  | y :: r => by
    have h0 : (x.1 == k) = false := by simpa using h
    unfold insB
    split
    · unfold findB; rw [List.find?_cons]; simp only [h0]
    · have ih := findB_ins_other h r
      unfold findB at ih ⊢
      rw [List.find?_cons, List.find?_cons]
      cases (y.1 == k) with
      | true => rfl
      | false => exact ih
theorem findB_turn_other {L : NmL} {fr to_ : ByteArray} {b : Nat} {k : List UInt8} (h1 : k ≠ fr.data.toList) (h2 : k ≠ to_.data.toList) : findB (turnL L fr to_ b) k = findB L k := by
  unfold turnL
  split
  · exact findB_del_other h1
  · unfold putB
    rw [findB_ins_other (x := (to_.data.toList, b)) (Ne.symm h2), findB_del_other h2, findB_del_other h1]
/-- the file "s" in block fs: its bytes are sure, and one write waits -/
structure SureI (b more : List Int) (fs : Nat) (x : DSt) : Prop where
  nm : ∀ k, findB (turnsL x.S (x.ts.take k)) [115] = some fs
  inp : fs ∈ x.ps
  sure : (x.F fs).sure = b
  wr : (x.F fs).writes = [(b.length, more)]
section
variable {b more : List Int} {fs : Nat} {x : DSt} {N : Nat}
theorem SureI.row (h : SureI b more fs x) (d : DiskN) : SureI b more fs { x with d := d } := ⟨h.nm, h.inp, h.sure, h.wr⟩
theorem SureI.found (h : SureI b more fs x) (hi : Inv N x) : findB x.L [115] = some fs := by
  have h1 := h.nm x.ts.length
  rw [List.take_length, ← hi.names] at h1
  exact h1
theorem SureI.other (h : SureI b more fs x) (hi : Inv N x) {k : List UInt8} {c : Nat} (hk : k ≠ [115]) (hc : findB x.L k = some c) : c ≠ fs := by
  rintro rfl
  have h5 := hi.one x.ts.length
  rw [List.take_length, ← hi.names] at h5
  have := OneNm.eq h5 (findB_pair hc) (findB_pair (h.found hi)) rfl
  simp only [Prod.mk.injEq] at this
  exact hk this.1
theorem SureI.setF (h : SureI b more fs x) (c : Nat) (hc : c ≠ fs) (f : FileD) : SureI b more fs (x.setF c f) := by
  have e : (x.setF c f).F fs = x.F fs := if_neg (Ne.symm hc)
  exact ⟨h.nm, h.inp, by rw [e]; exact h.sure, by rw [e]; exact h.wr⟩
theorem SureI.turned (h : SureI b more fs x) (m : TurnM) (c : Nat) (hc : m.blk = c) (h1 : m.fr.data.toList ≠ [115]) (h2 : m.to_.data.toList ≠ [115]) : SureI b more fs (turnS x m c) := by
  subst hc
  refine ⟨fun k => ?_, h.inp, h.sure, h.wr⟩
  show findB (turnsL x.S ((x.ts ++ [m]).take k)) [115] = _
  by_cases hk : k ≤ x.ts.length
  · rw [List.take_append_of_le_length hk]; exact h.nm k
  · rw [List.take_of_length_le (by rw [List.length_append, List.length_singleton]; omega), turnsL_app, findB_turn_other (Ne.symm h1) (Ne.symm h2)]
    have h3 := h.nm x.ts.length
    rwa [List.take_length] at h3
theorem SureI.made (h : SureI b more fs x) (fb : Nat) (hfb : fb ∉ x.ps) (l : List Int) : SureI b more fs (x.more fb l) := by
  have hne : fs ≠ fb := by rintro rfl; exact hfb h.inp
  have e : (x.more fb l).F fs = x.F fs := if_neg hne
  exact ⟨h.nm, List.mem_append_left _ h.inp, by rw [e]; exact h.sure, by rw [e]; exact h.wr⟩
theorem SureI.kept (h : SureI b more fs x) (k : Nat) : SureI b more fs (keepS x k) := by
  refine ⟨fun j => ?_, mem_keepPs.2 ⟨h.inp, findB_in (h.nm k)⟩, h.sure, h.wr⟩
  show findB (turnsL (turnsL x.S (x.ts.take k)) (([] : List TurnM).take j)) [115] = _
  rw [List.take_nil]
  exact h.nm k
theorem SureI.create (h : SureI b more fs x) (s : ByteArray) (hs : s.data.toList ≠ [115]) (fb : Nat) (hd : (createS x s fb).1.ps.Nodup) : SureI b more fs (createS x s fb).1 := by
  have h3 := h.row x.d.begin.1
  unfold createS at hd ⊢
  split
  · exact h3
  split
  · exact h3
  split
  · exact h3
  split
  · exact h3
  · rename_i c1 c2 o hf c3
    rw [if_neg c1, if_neg c2, hf] at hd
    simp only at hd
    rw [if_neg c3] at hd
    have hnew : fb ∉ x.ps := by
      have h5 : (x.ps ++ [fb]).Nodup := hd
      rw [List.nodup_append] at h5
      intro hm
      exact h5.2.2 fb hm fb (List.mem_singleton.2 rfl) rfl
    exact (h3.made fb hnew []).turned ⟨ByteArray.empty, s, fptr fb⟩ fb rfl (by show ByteArray.empty.data.toList ≠ [115]; decide) hs
theorem SureI.write (h : SureI b more fs x) (c k : Nat) (hc : c ≠ fs) (xs : List Int) : SureI b more fs (writeS x c k xs).1 := by
  unfold writeS
  split
  · exact h
  · exact h.setF c hc _
theorem SureI.append (h : SureI b more fs x) (hi : Inv N x) (k : List UInt8) (hk : k ≠ [115]) (xs : List Int) : SureI b more fs (appendS x k xs).1 := by
  have h3 := h.row x.d.begin.1
  unfold appendS
  split
  · exact h3
  · cases hf : findB x.L k with
    | none => exact h3
    | some c => exact h3.write c _ (h.other hi hk hf) xs
theorem SureI.pwrite (h : SureI b more fs x) (hi : Inv N x) (k : List UInt8) (hk : k ≠ [115]) (n : Int) (xs : List Int) : SureI b more fs (pwriteS x k n xs).1 := by
  have h3 := h.row x.d.begin.1
  unfold pwriteS
  split
  · exact h3
  · cases hf : findB x.L k with
    | none => exact h3
    | some c =>
      simp only
      split
      · exact h3
      · exact h3.write c _ (h.other hi hk hf) xs
theorem SureI.sync (h : SureI b more fs x) (hi : Inv N x) (k : List UInt8) (hk : k ≠ [115]) : SureI b more fs (syncS x k).1 := by
  have h3 := h.row x.d.begin.1
  unfold syncS
  split
  · exact h3
  · cases hf : findB x.L k with
    | none => exact h3
    | some c => exact h3.setF c (h.other hi hk hf) _
theorem SureI.rename (h : SureI b more fs x) (fr to_ : ByteArray) (h1 : fr.data.toList ≠ [115]) (h2 : to_.data.toList ≠ [115]) : SureI b more fs (renameS x fr to_).1 := by
  have h3 := h.row x.d.begin.1
  unfold renameS
  split
  · exact h3
  split
  · exact h3
  split
  · exact h3
  · cases hb : findB x.L fr.data.toList with
    | none => exact h3
    | some c => exact h3.turned ⟨fr, to_, fptr c⟩ c rfl h1 h2
theorem SureI.unlink (h : SureI b more fs x) (s : ByteArray) (h1 : s.data.toList ≠ [115]) : SureI b more fs (unlinkS x s).1 := by
  have h3 := h.row x.d.begin.1
  unfold unlinkS
  split
  · exact h3
  · exact h3.turned ⟨s, ByteArray.empty, .pointer none⟩ 0 rfl h1 (by show ByteArray.empty.data.toList ≠ [115]; decide)
theorem SureI.syncDir (h : SureI b more fs x) : SureI b more fs (syncDirS x).1 := by
  have h3 := h.row x.d.begin.1
  unfold syncDirS
  split
  · exact h3
  · exact h3.kept _
/-- a file as Boot may leave it -/
def KeptOf (b more : List Int) (f : FileD) : Prop := ∃ n, f.seen = b ++ more.take n ∧ f.sure = f.seen ∧ f.writes = []
theorem restore_kept {b more : List Int} {f : FileD} (h1 : f.sure = b) (h2 : f.writes = [(b.length, more)]) (keep : List Int) : KeptOf b more (f.restore keep) := by
  cases keep with
  | nil =>
    refine ⟨0, ?_, rfl, rfl⟩
    show overs f.sure (cutW [] f.writes) = _
    rw [h1]; simp [cutW, overs]
  | cons n ns =>
    refine ⟨(withinI n more.length).toNat, ?_, rfl, rfl⟩
    show overs f.sure (cutW (n :: ns) f.writes) = _
    rw [h1, h2]
    have e : cutW ns [] = [] := by cases ns <;> rfl
    have e2 : cutW (n :: ns) [(b.length, more)] = [(b.length, more.take (withinI n more.length).toNat)] := by unfold cutW; rw [e]
    rw [e2]
    show overL b b.length (more.take (withinI n more.length).toNat) = _
    by_cases h : more.take (withinI n more.length).toNat = []
    · rw [h, overL_nil, List.append_nil]
    · rw [overL_ne h]
      unfold splice
      have e3 : b.length + (more.take (withinI n more.length).toNat).length - b.length = (more.take (withinI n more.length).toNat).length := by omega
      rw [e3, List.take_append_of_le_length (Nat.le_refl _), List.take_length]
      rw [List.drop_eq_nil_of_le (by simp)]
      simp
theorem kept_again {b more : List Int} {f : FileD} (h : KeptOf b more f) (keep : List Int) : KeptOf b more (f.restore keep) := by
  obtain ⟨n, h1, h2, h3⟩ := h
  have e : cutW keep f.writes = [] := by rw [h3]; cases keep <;> rfl
  refine ⟨n, ?_, rfl, rfl⟩
  show overs f.sure (cutW keep f.writes) = _
  rw [e, ← h1, ← h2]; rfl
theorem keepF_kept {b more : List Int} {fs : Nat} {keep : List Int} : ∀ (ps : List Nat) (st : (Nat → FileD) × List Int), (KeptOf b more (st.1 fs) ∨ (fs ∈ ps ∧ (st.1 fs).sure = b ∧ (st.1 fs).writes = [(b.length, more)])) → KeptOf b more ((ps.foldl kwStep st).1 fs)
  | [], st, h => by
    rcases h with h | ⟨h, -⟩
    · exact h
    · cases h
  | c :: r, st, h => by
    rw [List.foldl_cons]
    apply keepF_kept (keep := keep) r
    unfold kwStep
    simp only
    by_cases he : fs = c
    · subst he
      left
      rw [if_pos rfl]
      rcases h with h | ⟨-, h1, h2⟩
      · exact kept_again h _
      · exact restore_kept h1 h2 _
    · rw [if_neg he]
      rcases h with h | ⟨hm, h1, h2⟩
      · exact .inl h
      · rcases List.mem_cons.1 hm with h3 | h3
        · exact absurd h3 he
        · exact .inr ⟨h3, h1, h2⟩
theorem SureI.boot (h : SureI b more fs x) (hd : x.d.down = true) (t : Int) (keep : List Int) : (bootS x t keep).2 = 0 ∧ ∃ n, gotR (bootS x t keep).1.d (bootS x t keep).1.L (bootS x t keep).1.F [115] = (b ++ more.take n, 0) := by
  have e : bootS x t keep = ({ keepS { x with F := (keepF x.F keep x.ps).1 } (withinI t x.ts.length).toNat with d := { x.d with crash := -1, fail := -1, down := false } }, 0) := by unfold bootS; rw [if_neg (by simp [hd])]
  rw [e]
  obtain ⟨n, hn, -, -⟩ := keepF_kept (keep := keep) x.ps (x.F, keep) (.inr ⟨h.inp, h.sure, h.wr⟩)
  refine ⟨rfl, n, ?_⟩
  unfold gotR
  rw [if_neg (by simp)]
  have eL : findB ({ keepS { x with F := (keepF x.F keep x.ps).1 } (withinI t x.ts.length).toNat with d := { x.d with crash := -1, fail := -1, down := false } } : DSt).L [115] = some fs := h.nm _
  rw [eL]
  exact congrArg (fun l => (l, (0 : Int))) hn
end
end Go.Proofs.Ytfcoaafmjllpfaa

/- Both disks in one world. -/
namespace Go.Proofs.Ytfcoaafmjllpfaa
open Go.Shelf Go.ChangeShapes Go.WideShapes Go.ChangeAt Go.RowKit
set_option linter.unusedVariables false
set_option linter.unusedSimpArgs false
section
variable {w0 w w' : World} {g m N M : Nat} {x : DSt} {r : RdV} {fs : List FileR} {now : EntL} {tn : Nat} {tc : List Value}
theorem RDat.dm (h : RDat M w m r fs now tn tc) (hd : DM w w') : RDat M w' m r fs now tn tc := by
  obtain ⟨F, hm, hk⟩ := hd
  exact h.mod hm (fun q hq => ⟨(hk q hq).notT (by decide) (by decide) (by decide) (by decide) (by decide) (by decide), (hk q hq).notT (by decide) (by decide) (by decide) (by decide) (by decide) (by decide), (hk q hq).notT (by decide) (by decide) (by decide) (by decide) (by decide) (by decide), (hk q hq).notT (by decide) (by decide) (by decide) (by decide) (by decide) (by decide), (hk q hq).notT (by decide) (by decide) (by decide) (by decide) (by decide) (by decide)⟩)
theorem DD.modR (h : DD w0 w g x) (hm : Mod [m] w w') (ht : IsT 74 w m) (hb : w0.heap.size ≤ m) : DD w0 w' g x := by
  obtain ⟨p, h1, h2, h3, h4, h5⟩ := h
  have hno : ∀ q ∈ p.all g x.ps, q ∉ [m] := by
    intro q hq hq2
    rw [List.mem_singleton.1 hq2] at hq
    exact (DOk_kind h1 m hq).notT (by decide) (by decide) (by decide) (by decide) (by decide) (by decide) ht
  have hall : ∀ q, (q = g ∨ q = p.nm ∨ q = p.su ∨ p.tu.ownBlock = some q ∨ p.kn.ownBlock = some q ∨ ∃ b ∈ x.ps, q ∈ (p.V b).all b) → q ∉ [m] := fun q hq => hno q (by
    simp only [DPl.all, List.mem_cons, List.mem_append, Option.mem_toList, List.mem_flatMap]
    first | exact hq | simpa using hq)
  refine ⟨p, h1.mod hm (hall g (.inl rfl)) (hall _ (.inr (.inl rfl))) (hall _ (.inr (.inr (.inl rfl)))) (fun k hk => hall k (.inr (.inr (.inr (.inl hk))))) (fun k hk => hall k (.inr (.inr (.inr (.inr (.inl hk)))))) (fun b hb q hq => hall q (.inr (.inr (.inr (.inr (.inr ⟨b, hb, hq⟩)))))), h2, h3, h4, h5.trans' hm (fun q hq => .inr (by rw [List.mem_singleton.1 hq]; exact hb))⟩
/-- a block of another kind stays -/
theorem DM.row (hd : DM w w') {b : Nat} {cs : Array Value} {t : TypeId} {z : Nat × Nat} (h : w.heap[b]? = some (.cells cs t z)) (h1 : 55 ≠ t) (h2 : 68 ≠ t) (h3 : 57 ≠ t) (h4 : 64 ≠ t) (h5 : 5 ≠ t) (h6 : 94 ≠ t) (hz : z = (0, 0)) : w'.heap[b]? = some (.cells cs t z) := by
  obtain ⟨F, hm, hk⟩ := hd
  subst hz
  exact hm.row h (fun hq => (hk b hq).notT h1 h2 h3 h4 h5 h6 ⟨_, h⟩)
end
/-- what an act leaves -/
def DoL (w0 : World) (g m : Nat) (b more : List Int) (sf N M : Nat) (e : Ending) (w' : World) : Prop :=
  IsBool e ∧ (∃ x', DD w0 w' g x' ∧ Inv (N + 3) x' ∧ SureI b more sf x') ∧ ∃ r fs now tn tc, RDat (M + 2) w' m r fs now tn tc
end Go.Proofs.Ytfcoaafmjllpfaa

/- The law's do. -/
namespace Go.Proofs.Ytfcoaafmjllpfaa
open Go.Shelf Go.ChangeShapes Go.WideShapes Go.ChangeAt Go.RowKit
set_option linter.unusedVariables false
set_option linter.unusedSimpArgs false
section
variable {w0 w w' : World} {g m N M sf : Nat} {x : DSt} {r : RdV} {fs : List FileR} {now : EntL} {tn : Nat} {tc : List Value} {b more : List Int}
set_option maxRecDepth 100000 in
set_option maxHeartbeats 4000000 in
theorem do0 (h : DD w0 w g x) (hi : Inv N x) (hS : SureI b more sf x) (hN : N ≤ 80000) (hr : RDat M w m r fs now tn tc) (hM : M ≤ 3900) (hm0 : w0.heap.size ≤ m) (sa sb : ByteArray) (n cd : Int) (ka : Option Addr) (kn kc : Nat) (z1 : sa.size ≤ 100) (z2 : sb.size ≤ 100) (hn : n ≤ 9223372036854775807) (e1 : sa.data.toList ≠ [115]) (e2 : sb.data.toList ≠ [115]) :
    Calls Try.prog 15 #[.pointer (some ⟨g, 0, none⟩), .pointer (some ⟨m, 0, none⟩), .agg #[.int .i64 0, .string sa, .string sb, .int .i64 n, .int .i64 cd, .slice ka kn kc]] w (DoL w0 g m b more sf N M) := by
  have hma : Mod [] w (w.alloc (.cells #[.int .i64 0, .string sa, .string sb, .int .i64 n, .int .i64 cd, .slice ka kn kc] 42)) := (Mod.refl [] w).alloc _
  have HB := Lib.hid (heap_alloc_new w (.cells #[.int .i64 0, .string sa, .string sb, .int .i64 n, .int .i64 cd, .slice ka kn kc] 42))
  have HD := Lib.hid (h.quiet hma)
  have HR := Lib.hid (hr.quiet hma)
  have HI := Lib.hid hi
  have HS := Lib.hid hS
  have j0 : (w.alloc (.cells #[.int .i64 0, .string sa, .string sb, .int .i64 n, .int .i64 cd, .slice ka kn kc] 42)).cell? ⟨w.heap.size, 0, none⟩ = some (.int .i64 0) := blk_cell HB.out 0
  have j1 : (w.alloc (.cells #[.int .i64 0, .string sa, .string sb, .int .i64 n, .int .i64 cd, .slice ka kn kc] 42)).cell? ⟨w.heap.size, 1, none⟩ = some (.string sa) := blk_cell HB.out 1
  have j2 : (w.alloc (.cells #[.int .i64 0, .string sa, .string sb, .int .i64 n, .int .i64 cd, .slice ka kn kc] 42)).cell? ⟨w.heap.size, 2, none⟩ = some (.string sb) := blk_cell HB.out 2
  have j3 : (w.alloc (.cells #[.int .i64 0, .string sa, .string sb, .int .i64 n, .int .i64 cd, .slice ka kn kc] 42)).cell? ⟨w.heap.size, 3, none⟩ = some (.int .i64 n) := blk_cell HB.out 3
  have j4 : (w.alloc (.cells #[.int .i64 0, .string sa, .string sb, .int .i64 n, .int .i64 cd, .slice ka kn kc] 42)).cell? ⟨w.heap.size, 4, none⟩ = some (.int .i64 cd) := blk_cell HB.out 4
  clear h hr hma
  unfold DoL
  go_enter Try.func15, Try.ntmps15
  go_wp2_with fail
  generalize hw1 : w.alloc (.cells #[.int .i64 0, .string sa, .string sb, .int .i64 n, .int .i64 cd, .slice ka kn kc] 42) = w1 at *
  clear hw1
  have HC := Lib.hid (fun W (hm : Mod [] w1 W) => create_d2 (HD.out.quiet hm) HI.out (by omega) sa (by omega))
  go_region_held3 (fun W => W.cell? ⟨w.heap.size, 1, none⟩ = some (.string sa)) (first | go_keep | assumption) (first
    | (go_at_call 10; refine (HC.out _ ((Mod.refl [] _).drew)).mono ?_; rintro e w3 ⟨fb, rfl, hdd, hii, hdm⟩; have HSx := Lib.hid (HS.out.create sa e1 fb hdd.dup); have HB3 := Lib.hid (hdm.row (blk_drew HB.out) (by decide) (by decide) (by decide) (by decide) (by decide) (by decide) rfl); have qw31 : w3.cell? ⟨w.heap.size, 1, none⟩ = some (.string sa) := blk_cell HB3.out 1; have HR3 := Lib.hid ((HR.out.quiet ((Mod.refl [] _).drew)).dm hdm); have HDx := Lib.hid hdd; have HIx := Lib.hid hii; clear hdd hii hdm; generalize createS x sa fb = y at *)
    | (go_at_call 35; refine (create_r HR3.out (by omega) sa (by omega)).mono ?_; rintro e w4 ⟨⟨c4, rfl⟩, ⟨r4, fs4, now4, tn4, tc4, hr4⟩, hm4⟩; have HR4 := Lib.hid hr4; have HD4 := Lib.hid (HDx.out.modR hm4 HR3.out.isM hm0); have HB4 := Lib.hid (hm4.row HB3.out (by simp only [List.mem_singleton]; rintro rfl; exact absurd HR3.out.isM (fun ht => (IsT.ne ⟨_, HB3.out⟩ (by decide)) ht))); have qw41 : w4.cell? ⟨w.heap.size, 1, none⟩ = some (.string sa) := blk_cell HB4.out 1; clear hr4 hm4))
  all_goals
    go_wp2_with fail
    go_ret
    exact ⟨⟨_, rfl⟩, ⟨_, HD4.out, HIx.out, HSx.out⟩, ⟨_, _, _, _, _, HR4.out.mono (by omega)⟩⟩
set_option maxRecDepth 100000 in
set_option maxHeartbeats 4000000 in
theorem do3 (h : DD w0 w g x) (hi : Inv N x) (hS : SureI b more sf x) (hN : N ≤ 80000) (hr : RDat M w m r fs now tn tc) (hM : M ≤ 3900) (hm0 : w0.heap.size ≤ m) (sa sb : ByteArray) (n cd : Int) (ka : Option Addr) (kn kc : Nat) (z1 : sa.size ≤ 100) (z2 : sb.size ≤ 100) (hn : n ≤ 9223372036854775807) (e1 : sa.data.toList ≠ [115]) (e2 : sb.data.toList ≠ [115]) :
    Calls Try.prog 15 #[.pointer (some ⟨g, 0, none⟩), .pointer (some ⟨m, 0, none⟩), .agg #[.int .i64 3, .string sa, .string sb, .int .i64 n, .int .i64 cd, .slice ka kn kc]] w (DoL w0 g m b more sf N M) := by
  have hma : Mod [] w (w.alloc (.cells #[.int .i64 3, .string sa, .string sb, .int .i64 n, .int .i64 cd, .slice ka kn kc] 42)) := (Mod.refl [] w).alloc _
  have HB := Lib.hid (heap_alloc_new w (.cells #[.int .i64 3, .string sa, .string sb, .int .i64 n, .int .i64 cd, .slice ka kn kc] 42))
  have HD := Lib.hid (h.quiet hma)
  have HR := Lib.hid (hr.quiet hma)
  have HI := Lib.hid hi
  have HS := Lib.hid hS
  have j0 : (w.alloc (.cells #[.int .i64 3, .string sa, .string sb, .int .i64 n, .int .i64 cd, .slice ka kn kc] 42)).cell? ⟨w.heap.size, 0, none⟩ = some (.int .i64 3) := blk_cell HB.out 0
  have j1 : (w.alloc (.cells #[.int .i64 3, .string sa, .string sb, .int .i64 n, .int .i64 cd, .slice ka kn kc] 42)).cell? ⟨w.heap.size, 1, none⟩ = some (.string sa) := blk_cell HB.out 1
  have j2 : (w.alloc (.cells #[.int .i64 3, .string sa, .string sb, .int .i64 n, .int .i64 cd, .slice ka kn kc] 42)).cell? ⟨w.heap.size, 2, none⟩ = some (.string sb) := blk_cell HB.out 2
  have j3 : (w.alloc (.cells #[.int .i64 3, .string sa, .string sb, .int .i64 n, .int .i64 cd, .slice ka kn kc] 42)).cell? ⟨w.heap.size, 3, none⟩ = some (.int .i64 n) := blk_cell HB.out 3
  have j4 : (w.alloc (.cells #[.int .i64 3, .string sa, .string sb, .int .i64 n, .int .i64 cd, .slice ka kn kc] 42)).cell? ⟨w.heap.size, 4, none⟩ = some (.int .i64 cd) := blk_cell HB.out 4
  clear h hr hma
  unfold DoL
  go_enter Try.func15, Try.ntmps15
  go_wp2_with fail
  generalize hw1 : w.alloc (.cells #[.int .i64 3, .string sa, .string sb, .int .i64 n, .int .i64 cd, .slice ka kn kc] 42) = w1 at *
  clear hw1
  have HC := Lib.hid (fun W (hm : Mod [] w1 W) => sync_d2 (HD.out.quiet hm) HI.out (by omega) sa (by omega))
  go_region_held3 (fun W => W.cell? ⟨w.heap.size, 1, none⟩ = some (.string sa)) (first | go_keep | assumption) (first
    | (go_at_call 12; refine (HC.out _ ((Mod.refl [] _).drew)).mono ?_; rintro e w3 ⟨rfl, hdd, hii, hdm⟩; have HSx := Lib.hid (HS.out.sync HI.out _ e1); have HB3 := Lib.hid (hdm.row (blk_drew HB.out) (by decide) (by decide) (by decide) (by decide) (by decide) (by decide) rfl); have qw31 : w3.cell? ⟨w.heap.size, 1, none⟩ = some (.string sa) := blk_cell HB3.out 1; have HR3 := Lib.hid ((HR.out.quiet ((Mod.refl [] _).drew)).dm hdm); have HDx := Lib.hid hdd; have HIx := Lib.hid hii; clear hdd hii hdm; generalize syncS x sa.data.toList = y at *)
    | (go_at_call 39; refine (sync_r HR3.out (by omega) sa).mono ?_; rintro e w4 ⟨⟨c4, rfl⟩, ⟨r4, fs4, now4, tn4, tc4, hr4⟩, hm4⟩; have HR4 := Lib.hid hr4; have HD4 := Lib.hid (HDx.out.modR hm4 HR3.out.isM hm0); have HB4 := Lib.hid (hm4.row HB3.out (by simp only [List.mem_singleton]; rintro rfl; exact absurd HR3.out.isM (fun ht => (IsT.ne ⟨_, HB3.out⟩ (by decide)) ht))); have qw41 : w4.cell? ⟨w.heap.size, 1, none⟩ = some (.string sa) := blk_cell HB4.out 1; clear hr4 hm4))
  all_goals
    go_wp2_with fail
    go_ret
    exact ⟨⟨_, rfl⟩, ⟨_, HD4.out, HIx.out, HSx.out⟩, ⟨_, _, _, _, _, HR4.out.mono (by omega)⟩⟩
set_option maxRecDepth 100000 in
set_option maxHeartbeats 4000000 in
theorem do4 (h : DD w0 w g x) (hi : Inv N x) (hS : SureI b more sf x) (hN : N ≤ 80000) (hr : RDat M w m r fs now tn tc) (hM : M ≤ 3900) (hm0 : w0.heap.size ≤ m) (sa sb : ByteArray) (n cd : Int) (ka : Option Addr) (kn kc : Nat) (z1 : sa.size ≤ 100) (z2 : sb.size ≤ 100) (hn : n ≤ 9223372036854775807) (e1 : sa.data.toList ≠ [115]) (e2 : sb.data.toList ≠ [115]) :
    Calls Try.prog 15 #[.pointer (some ⟨g, 0, none⟩), .pointer (some ⟨m, 0, none⟩), .agg #[.int .i64 4, .string sa, .string sb, .int .i64 n, .int .i64 cd, .slice ka kn kc]] w (DoL w0 g m b more sf N M) := by
  have hma : Mod [] w (w.alloc (.cells #[.int .i64 4, .string sa, .string sb, .int .i64 n, .int .i64 cd, .slice ka kn kc] 42)) := (Mod.refl [] w).alloc _
  have HB := Lib.hid (heap_alloc_new w (.cells #[.int .i64 4, .string sa, .string sb, .int .i64 n, .int .i64 cd, .slice ka kn kc] 42))
  have HD := Lib.hid (h.quiet hma)
  have HR := Lib.hid (hr.quiet hma)
  have HI := Lib.hid hi
  have HS := Lib.hid hS
  have j0 : (w.alloc (.cells #[.int .i64 4, .string sa, .string sb, .int .i64 n, .int .i64 cd, .slice ka kn kc] 42)).cell? ⟨w.heap.size, 0, none⟩ = some (.int .i64 4) := blk_cell HB.out 0
  have j1 : (w.alloc (.cells #[.int .i64 4, .string sa, .string sb, .int .i64 n, .int .i64 cd, .slice ka kn kc] 42)).cell? ⟨w.heap.size, 1, none⟩ = some (.string sa) := blk_cell HB.out 1
  have j2 : (w.alloc (.cells #[.int .i64 4, .string sa, .string sb, .int .i64 n, .int .i64 cd, .slice ka kn kc] 42)).cell? ⟨w.heap.size, 2, none⟩ = some (.string sb) := blk_cell HB.out 2
  have j3 : (w.alloc (.cells #[.int .i64 4, .string sa, .string sb, .int .i64 n, .int .i64 cd, .slice ka kn kc] 42)).cell? ⟨w.heap.size, 3, none⟩ = some (.int .i64 n) := blk_cell HB.out 3
  have j4 : (w.alloc (.cells #[.int .i64 4, .string sa, .string sb, .int .i64 n, .int .i64 cd, .slice ka kn kc] 42)).cell? ⟨w.heap.size, 4, none⟩ = some (.int .i64 cd) := blk_cell HB.out 4
  clear h hr hma
  unfold DoL
  go_enter Try.func15, Try.ntmps15
  go_wp2_with fail
  generalize hw1 : w.alloc (.cells #[.int .i64 4, .string sa, .string sb, .int .i64 n, .int .i64 cd, .slice ka kn kc] 42) = w1 at *
  clear hw1
  have HC := Lib.hid (fun W (hm : Mod [] w1 W) => rename_d2 (HD.out.quiet hm) HI.out (by omega) sa sb (by omega) (by omega))
  go_region_held3 (fun W => W.cell? ⟨w.heap.size, 1, none⟩ = some (.string sa) ∧ W.cell? ⟨w.heap.size, 2, none⟩ = some (.string sb)) (first | go_keep | (refine ⟨?_, ?_⟩ <;> assumption)) (first
    | (go_at_call 20; refine (HC.out _ ((Mod.refl [] _).drew)).mono ?_; rintro e w3 ⟨rfl, hdd, hii, hdm⟩; have HSx := Lib.hid (HS.out.rename sa sb e1 e2); have HB3 := Lib.hid (hdm.row (blk_drew HB.out) (by decide) (by decide) (by decide) (by decide) (by decide) (by decide) rfl); have qw31 : w3.cell? ⟨w.heap.size, 1, none⟩ = some (.string sa) := blk_cell HB3.out 1; have qw32 : w3.cell? ⟨w.heap.size, 2, none⟩ = some (.string sb) := blk_cell HB3.out 2; have HR3 := Lib.hid ((HR.out.quiet ((Mod.refl [] _).drew)).dm hdm); have HDx := Lib.hid hdd; have HIx := Lib.hid hii; clear hdd hii hdm; generalize renameS x sa sb = y at *)
    | (go_at_call 40; refine (rename_r HR3.out (by omega) sa sb (by omega)).mono ?_; rintro e w4 ⟨⟨c4, rfl⟩, ⟨r4, fs4, now4, tn4, tc4, hr4⟩, hm4⟩; have HR4 := Lib.hid hr4; have HD4 := Lib.hid (HDx.out.modR hm4 HR3.out.isM hm0); have HB4 := Lib.hid (hm4.row HB3.out (by simp only [List.mem_singleton]; rintro rfl; exact absurd HR3.out.isM (fun ht => (IsT.ne ⟨_, HB3.out⟩ (by decide)) ht))); have qw41 : w4.cell? ⟨w.heap.size, 1, none⟩ = some (.string sa) := blk_cell HB4.out 1; have qw42 : w4.cell? ⟨w.heap.size, 2, none⟩ = some (.string sb) := blk_cell HB4.out 2; clear hr4 hm4))
  all_goals
    go_wp2_with fail
    go_ret
    exact ⟨⟨_, rfl⟩, ⟨_, HD4.out, HIx.out, HSx.out⟩, ⟨_, _, _, _, _, HR4.out.mono (by omega)⟩⟩
set_option maxRecDepth 100000 in
set_option maxHeartbeats 4000000 in
theorem do5 (h : DD w0 w g x) (hi : Inv N x) (hS : SureI b more sf x) (hN : N ≤ 80000) (hr : RDat M w m r fs now tn tc) (hM : M ≤ 3900) (hm0 : w0.heap.size ≤ m) (sa sb : ByteArray) (n cd : Int) (ka : Option Addr) (kn kc : Nat) (z1 : sa.size ≤ 100) (z2 : sb.size ≤ 100) (hn : n ≤ 9223372036854775807) (e1 : sa.data.toList ≠ [115]) (e2 : sb.data.toList ≠ [115]) :
    Calls Try.prog 15 #[.pointer (some ⟨g, 0, none⟩), .pointer (some ⟨m, 0, none⟩), .agg #[.int .i64 5, .string sa, .string sb, .int .i64 n, .int .i64 cd, .slice ka kn kc]] w (DoL w0 g m b more sf N M) := by
  have hma : Mod [] w (w.alloc (.cells #[.int .i64 5, .string sa, .string sb, .int .i64 n, .int .i64 cd, .slice ka kn kc] 42)) := (Mod.refl [] w).alloc _
  have HB := Lib.hid (heap_alloc_new w (.cells #[.int .i64 5, .string sa, .string sb, .int .i64 n, .int .i64 cd, .slice ka kn kc] 42))
  have HD := Lib.hid (h.quiet hma)
  have HR := Lib.hid (hr.quiet hma)
  have HI := Lib.hid hi
  have HS := Lib.hid hS
  have j0 : (w.alloc (.cells #[.int .i64 5, .string sa, .string sb, .int .i64 n, .int .i64 cd, .slice ka kn kc] 42)).cell? ⟨w.heap.size, 0, none⟩ = some (.int .i64 5) := blk_cell HB.out 0
  have j1 : (w.alloc (.cells #[.int .i64 5, .string sa, .string sb, .int .i64 n, .int .i64 cd, .slice ka kn kc] 42)).cell? ⟨w.heap.size, 1, none⟩ = some (.string sa) := blk_cell HB.out 1
  have j2 : (w.alloc (.cells #[.int .i64 5, .string sa, .string sb, .int .i64 n, .int .i64 cd, .slice ka kn kc] 42)).cell? ⟨w.heap.size, 2, none⟩ = some (.string sb) := blk_cell HB.out 2
  have j3 : (w.alloc (.cells #[.int .i64 5, .string sa, .string sb, .int .i64 n, .int .i64 cd, .slice ka kn kc] 42)).cell? ⟨w.heap.size, 3, none⟩ = some (.int .i64 n) := blk_cell HB.out 3
  have j4 : (w.alloc (.cells #[.int .i64 5, .string sa, .string sb, .int .i64 n, .int .i64 cd, .slice ka kn kc] 42)).cell? ⟨w.heap.size, 4, none⟩ = some (.int .i64 cd) := blk_cell HB.out 4
  clear h hr hma
  unfold DoL
  go_enter Try.func15, Try.ntmps15
  go_wp2_with fail
  generalize hw1 : w.alloc (.cells #[.int .i64 5, .string sa, .string sb, .int .i64 n, .int .i64 cd, .slice ka kn kc] 42) = w1 at *
  clear hw1
  have HC := Lib.hid (fun W (hm : Mod [] w1 W) => unlink_d2 (HD.out.quiet hm) HI.out (by omega) sa (by omega))
  go_region_held3 (fun W => W.cell? ⟨w.heap.size, 1, none⟩ = some (.string sa)) (first | go_keep | assumption) (first
    | (go_at_call 41; refine (HC.out _ ((Mod.refl [] _).drew)).mono ?_; rintro e w3 ⟨rfl, hdd, hii, hdm⟩; have HSx := Lib.hid (HS.out.unlink sa e1); have HB3 := Lib.hid (hdm.row (blk_drew HB.out) (by decide) (by decide) (by decide) (by decide) (by decide) (by decide) rfl); have qw31 : w3.cell? ⟨w.heap.size, 1, none⟩ = some (.string sa) := blk_cell HB3.out 1; have HR3 := Lib.hid ((HR.out.quiet ((Mod.refl [] _).drew)).dm hdm); have HDx := Lib.hid hdd; have HIx := Lib.hid hii; clear hdd hii hdm; generalize unlinkS x sa = y at *)
    | (go_at_call 42; refine (unlink_r HR3.out (by omega) sa).mono ?_; rintro e w4 ⟨⟨c4, rfl⟩, ⟨r4, fs4, now4, tn4, tc4, hr4⟩, hm4⟩; have HR4 := Lib.hid hr4; have HD4 := Lib.hid (HDx.out.modR hm4 HR3.out.isM hm0); have HB4 := Lib.hid (hm4.row HB3.out (by simp only [List.mem_singleton]; rintro rfl; exact absurd HR3.out.isM (fun ht => (IsT.ne ⟨_, HB3.out⟩ (by decide)) ht))); have qw41 : w4.cell? ⟨w.heap.size, 1, none⟩ = some (.string sa) := blk_cell HB4.out 1; clear hr4 hm4))
  all_goals
    go_wp2_with fail
    go_ret
    exact ⟨⟨_, rfl⟩, ⟨_, HD4.out, HIx.out, HSx.out⟩, ⟨_, _, _, _, _, HR4.out.mono (by omega)⟩⟩
end
end Go.Proofs.Ytfcoaafmjllpfaa

/- The law's do. -/
namespace Go.Proofs.Ytfcoaafmjllpfaa
open Go.Shelf Go.ChangeShapes Go.WideShapes Go.ChangeAt Go.RowKit
set_option linter.unusedVariables false
set_option linter.unusedSimpArgs false
section
variable {w0 w w' : World} {g m N M sf : Nat} {x : DSt} {r : RdV} {fs : List FileR} {now : EntL} {tn : Nat} {tc : List Value} {b more : List Int}
theorem RDat.reset (h : RDat M w m r fs now tn tc) (i : Nat) (hi : i = 7 ∨ i = 8 ∨ i = 9) (v : Int) : ∃ r', RDat M (w.setCell ⟨m, i, none⟩ (.int .i64 v)) m r' fs now tn tc := by
  obtain ⟨fv, nv, sv, tv, cap, dn, calls, fa, cr, er⟩ := r
  have hm := mod_set w m i (.int .i64 v)
  have hr := blk_set h.row i (.int .i64 v)
  rcases hi with rfl | rfl | rfl
  · exact ⟨⟨fv, nv, sv, tv, cap, dn, calls, v, cr, er⟩, h.rowed hm _ rfl rfl h.sure rfl hr⟩
  · exact ⟨⟨fv, nv, sv, tv, cap, dn, calls, fa, v, er⟩, h.rowed hm _ rfl rfl h.sure rfl hr⟩
  · exact ⟨⟨fv, nv, sv, tv, cap, dn, calls, fa, cr, v⟩, h.rowed hm _ rfl rfl h.sure rfl hr⟩
set_option maxRecDepth 100000 in
set_option maxHeartbeats 4000000 in
theorem do6 (h : DD w0 w g x) (hi : Inv N x) (hS : SureI b more sf x) (hN : N ≤ 80000) (hr : RDat M w m r fs now tn tc) (hM : M ≤ 3900) (hm0 : w0.heap.size ≤ m) (sa sb : ByteArray) (n cd : Int) (ka : Option Addr) (kn kc : Nat) (z1 : sa.size ≤ 100) (z2 : sb.size ≤ 100) (hn : n ≤ 9223372036854775807) (e1 : sa.data.toList ≠ [115]) (e2 : sb.data.toList ≠ [115]) :
    Calls Try.prog 15 #[.pointer (some ⟨g, 0, none⟩), .pointer (some ⟨m, 0, none⟩), .agg #[.int .i64 6, .string sa, .string sb, .int .i64 n, .int .i64 cd, .slice ka kn kc]] w (DoL w0 g m b more sf N M) := by
  have hma : Mod [] w (w.alloc (.cells #[.int .i64 6, .string sa, .string sb, .int .i64 n, .int .i64 cd, .slice ka kn kc] 42)) := (Mod.refl [] w).alloc _
  have HB := Lib.hid (heap_alloc_new w (.cells #[.int .i64 6, .string sa, .string sb, .int .i64 n, .int .i64 cd, .slice ka kn kc] 42))
  have HD := Lib.hid (h.quiet hma)
  have HR := Lib.hid (hr.quiet hma)
  have HI := Lib.hid hi
  have HS := Lib.hid hS
  have j0 : (w.alloc (.cells #[.int .i64 6, .string sa, .string sb, .int .i64 n, .int .i64 cd, .slice ka kn kc] 42)).cell? ⟨w.heap.size, 0, none⟩ = some (.int .i64 6) := blk_cell HB.out 0
  have j1 : (w.alloc (.cells #[.int .i64 6, .string sa, .string sb, .int .i64 n, .int .i64 cd, .slice ka kn kc] 42)).cell? ⟨w.heap.size, 1, none⟩ = some (.string sa) := blk_cell HB.out 1
  have j2 : (w.alloc (.cells #[.int .i64 6, .string sa, .string sb, .int .i64 n, .int .i64 cd, .slice ka kn kc] 42)).cell? ⟨w.heap.size, 2, none⟩ = some (.string sb) := blk_cell HB.out 2
  have j3 : (w.alloc (.cells #[.int .i64 6, .string sa, .string sb, .int .i64 n, .int .i64 cd, .slice ka kn kc] 42)).cell? ⟨w.heap.size, 3, none⟩ = some (.int .i64 n) := blk_cell HB.out 3
  have j4 : (w.alloc (.cells #[.int .i64 6, .string sa, .string sb, .int .i64 n, .int .i64 cd, .slice ka kn kc] 42)).cell? ⟨w.heap.size, 4, none⟩ = some (.int .i64 cd) := blk_cell HB.out 4
  clear h hr hma
  unfold DoL
  go_enter Try.func15, Try.ntmps15
  go_wp2_with fail
  generalize hw1 : w.alloc (.cells #[.int .i64 6, .string sa, .string sb, .int .i64 n, .int .i64 cd, .slice ka kn kc] 42) = w1 at *
  clear hw1
  have HC := Lib.hid (fun W (hm : Mod [] w1 W) => syncDir_d2 (HD.out.quiet hm) HI.out (by omega))
  refine (HC.out _ (Mod.refl [] _)).mono ?_
  rintro e w3 ⟨rfl, hdd, hii, hdm⟩
  have HSx := Lib.hid (HS.out.syncDir)
  have HB3 := Lib.hid (hdm.row HB.out (by decide) (by decide) (by decide) (by decide) (by decide) (by decide) rfl)
  have HR3 := Lib.hid (HR.out.dm hdm)
  have HDx := Lib.hid hdd
  have HIx := Lib.hid hii
  have q3 : w3.cell? ⟨w.heap.size, 3, none⟩ = some (.int .i64 n) := blk_cell HB3.out 3
  have q4 : w3.cell? ⟨w.heap.size, 4, none⟩ = some (.int .i64 cd) := blk_cell HB3.out 4
  have hne : w.heap.size ≠ m := by
    intro hh
    rw [hh] at HB3
    exact (IsT.ne ⟨_, HB3.out⟩ (by decide)) HR3.out.isM
  clear hdd hii hdm
  have HRS := Lib.hid (syncDir_r HR3.out)
  generalize syncDirS x = y at *
  go_wp2_with fail
  refine HRS.out.mono ?_
  rintro e w4 ⟨⟨c4, rfl⟩, ⟨r4, fs4, now4, tn4, tc4, hr4⟩, hm4⟩
  have HR4 := Lib.hid hr4
  have HD4 := Lib.hid (HDx.out.modR hm4 HR3.out.isM hm0)
  clear hr4 hm4
  go_wp2_with fail
  go_ret
  exact ⟨⟨_, rfl⟩, ⟨_, HD4.out, HIx.out, HSx.out⟩, ⟨_, _, _, _, _, HR4.out.mono (by omega)⟩⟩
set_option maxRecDepth 100000 in
set_option maxHeartbeats 4000000 in
theorem do7 (h : DD w0 w g x) (hi : Inv N x) (hS : SureI b more sf x) (hN : N ≤ 80000) (hr : RDat M w m r fs now tn tc) (hM : M ≤ 3900) (hm0 : w0.heap.size ≤ m) (sa sb : ByteArray) (n cd : Int) (ka : Option Addr) (kn kc : Nat) (z1 : sa.size ≤ 100) (z2 : sb.size ≤ 100) (hn : n ≤ 9223372036854775807) (e1 : sa.data.toList ≠ [115]) (e2 : sb.data.toList ≠ [115]) :
    Calls Try.prog 15 #[.pointer (some ⟨g, 0, none⟩), .pointer (some ⟨m, 0, none⟩), .agg #[.int .i64 7, .string sa, .string sb, .int .i64 n, .int .i64 cd, .slice ka kn kc]] w (DoL w0 g m b more sf N M) := by
  have hma : Mod [] w (w.alloc (.cells #[.int .i64 7, .string sa, .string sb, .int .i64 n, .int .i64 cd, .slice ka kn kc] 42)) := (Mod.refl [] w).alloc _
  have HB := Lib.hid (heap_alloc_new w (.cells #[.int .i64 7, .string sa, .string sb, .int .i64 n, .int .i64 cd, .slice ka kn kc] 42))
  have HD := Lib.hid (h.quiet hma)
  have HR := Lib.hid (hr.quiet hma)
  have HI := Lib.hid hi
  have HS := Lib.hid hS
  have j0 : (w.alloc (.cells #[.int .i64 7, .string sa, .string sb, .int .i64 n, .int .i64 cd, .slice ka kn kc] 42)).cell? ⟨w.heap.size, 0, none⟩ = some (.int .i64 7) := blk_cell HB.out 0
  have j1 : (w.alloc (.cells #[.int .i64 7, .string sa, .string sb, .int .i64 n, .int .i64 cd, .slice ka kn kc] 42)).cell? ⟨w.heap.size, 1, none⟩ = some (.string sa) := blk_cell HB.out 1
  have j2 : (w.alloc (.cells #[.int .i64 7, .string sa, .string sb, .int .i64 n, .int .i64 cd, .slice ka kn kc] 42)).cell? ⟨w.heap.size, 2, none⟩ = some (.string sb) := blk_cell HB.out 2
  have j3 : (w.alloc (.cells #[.int .i64 7, .string sa, .string sb, .int .i64 n, .int .i64 cd, .slice ka kn kc] 42)).cell? ⟨w.heap.size, 3, none⟩ = some (.int .i64 n) := blk_cell HB.out 3
  have j4 : (w.alloc (.cells #[.int .i64 7, .string sa, .string sb, .int .i64 n, .int .i64 cd, .slice ka kn kc] 42)).cell? ⟨w.heap.size, 4, none⟩ = some (.int .i64 cd) := blk_cell HB.out 4
  clear h hr hma
  unfold DoL
  go_enter Try.func15, Try.ntmps15
  go_wp2_with fail
  generalize hw1 : w.alloc (.cells #[.int .i64 7, .string sa, .string sb, .int .i64 n, .int .i64 cd, .slice ka kn kc] 42) = w1 at *
  clear hw1
  have HC := Lib.hid (fun W (hm : Mod [] w1 W) => fail_d2 (HD.out.quiet hm) HI.out n cd hn)
  refine (HC.out _ (Mod.refl [] _)).mono ?_
  rintro e w3 ⟨rfl, hdd, hii, hdm⟩
  have HSx := Lib.hid (HS.out.row (x.d.failing n cd))
  have HB3 := Lib.hid (hdm.row HB.out (by decide) (by decide) (by decide) (by decide) (by decide) (by decide) rfl)
  have HR3 := Lib.hid (HR.out.dm hdm)
  have HDx := Lib.hid hdd
  have HIx := Lib.hid hii
  have q3 : w3.cell? ⟨w.heap.size, 3, none⟩ = some (.int .i64 n) := blk_cell HB3.out 3
  have q4 : w3.cell? ⟨w.heap.size, 4, none⟩ = some (.int .i64 cd) := blk_cell HB3.out 4
  have hne : w.heap.size ≠ m := by
    intro hh
    rw [hh] at HB3
    exact (IsT.ne ⟨_, HB3.out⟩ (by decide)) HR3.out.isM
  clear hdd hii hdm
  have HFa := Lib.hid (failing_r w3 n cd)
  unfold IsInt at HFa
  go_wp2_with fail
  refine HFa.out.mono ?_
  rintro e w4 ⟨⟨c4, rfl⟩, rfl⟩
  have k7 : w4.cell? ⟨m, 7, none⟩ = some (.int .i64 r.fa) := blk_cell HR3.out.row 7
  have z7 := blk_free HR3.out.row 7
  obtain ⟨r5, hr5⟩ := HR3.out.reset 7 (.inl rfl) c4
  have k9 : (w4.setCell ⟨m, 7, none⟩ (.int .i64 c4)).cell? ⟨m, 9, none⟩ = some (.int .i64 r5.er) := blk_cell hr5.row 9
  have z9 := blk_free hr5.row 9
  have k4 : (w4.setCell ⟨m, 7, none⟩ (.int .i64 c4)).cell? ⟨w.heap.size, 4, none⟩ = some (.int .i64 cd) := blk_cell ((mod_set w4 m 7 (.int .i64 c4)).row HB3.out (by simpa using hne)) 4
  obtain ⟨r6, hr6⟩ := hr5.reset 9 (.inr (.inr rfl)) cd
  have HR5 := Lib.hid hr5
  have HR6 := Lib.hid hr6
  clear hr5 hr6
  go_wp2_with fail
  go_ret
  exact ⟨⟨_, rfl⟩, ⟨_, (HDx.out.modR (mod_set w4 m 7 (.int .i64 c4)) HR3.out.isM hm0).modR (mod_set _ m 9 (.int .i64 cd)) HR5.out.isM hm0, HIx.out.mono (by omega), HSx.out⟩, ⟨_, _, _, _, _, HR6.out.mono (by omega)⟩⟩
set_option maxRecDepth 100000 in
set_option maxHeartbeats 4000000 in
theorem do8 (h : DD w0 w g x) (hi : Inv N x) (hS : SureI b more sf x) (hN : N ≤ 80000) (hr : RDat M w m r fs now tn tc) (hM : M ≤ 3900) (hm0 : w0.heap.size ≤ m) (sa sb : ByteArray) (n cd : Int) (ka : Option Addr) (kn kc : Nat) (z1 : sa.size ≤ 100) (z2 : sb.size ≤ 100) (hn : n ≤ 9223372036854775807) (e1 : sa.data.toList ≠ [115]) (e2 : sb.data.toList ≠ [115]) :
    Calls Try.prog 15 #[.pointer (some ⟨g, 0, none⟩), .pointer (some ⟨m, 0, none⟩), .agg #[.int .i64 8, .string sa, .string sb, .int .i64 n, .int .i64 cd, .slice ka kn kc]] w (DoL w0 g m b more sf N M) := by
  have hma : Mod [] w (w.alloc (.cells #[.int .i64 8, .string sa, .string sb, .int .i64 n, .int .i64 cd, .slice ka kn kc] 42)) := (Mod.refl [] w).alloc _
  have HB := Lib.hid (heap_alloc_new w (.cells #[.int .i64 8, .string sa, .string sb, .int .i64 n, .int .i64 cd, .slice ka kn kc] 42))
  have HD := Lib.hid (h.quiet hma)
  have HR := Lib.hid (hr.quiet hma)
  have HI := Lib.hid hi
  have HS := Lib.hid hS
  have j0 : (w.alloc (.cells #[.int .i64 8, .string sa, .string sb, .int .i64 n, .int .i64 cd, .slice ka kn kc] 42)).cell? ⟨w.heap.size, 0, none⟩ = some (.int .i64 8) := blk_cell HB.out 0
  have j1 : (w.alloc (.cells #[.int .i64 8, .string sa, .string sb, .int .i64 n, .int .i64 cd, .slice ka kn kc] 42)).cell? ⟨w.heap.size, 1, none⟩ = some (.string sa) := blk_cell HB.out 1
  have j2 : (w.alloc (.cells #[.int .i64 8, .string sa, .string sb, .int .i64 n, .int .i64 cd, .slice ka kn kc] 42)).cell? ⟨w.heap.size, 2, none⟩ = some (.string sb) := blk_cell HB.out 2
  have j3 : (w.alloc (.cells #[.int .i64 8, .string sa, .string sb, .int .i64 n, .int .i64 cd, .slice ka kn kc] 42)).cell? ⟨w.heap.size, 3, none⟩ = some (.int .i64 n) := blk_cell HB.out 3
  have j4 : (w.alloc (.cells #[.int .i64 8, .string sa, .string sb, .int .i64 n, .int .i64 cd, .slice ka kn kc] 42)).cell? ⟨w.heap.size, 4, none⟩ = some (.int .i64 cd) := blk_cell HB.out 4
  clear h hr hma
  unfold DoL
  go_enter Try.func15, Try.ntmps15
  go_wp2_with fail
  generalize hw1 : w.alloc (.cells #[.int .i64 8, .string sa, .string sb, .int .i64 n, .int .i64 cd, .slice ka kn kc] 42) = w1 at *
  clear hw1
  have HC := Lib.hid (fun W (hm : Mod [] w1 W) => crash_d2 (HD.out.quiet hm) HI.out n hn)
  refine (HC.out _ (Mod.refl [] _)).mono ?_
  rintro e w3 ⟨rfl, hdd, hii, hdm⟩
  have HSx := Lib.hid (HS.out.row { x.d with crash := n })
  have HB3 := Lib.hid (hdm.row HB.out (by decide) (by decide) (by decide) (by decide) (by decide) (by decide) rfl)
  have HR3 := Lib.hid (HR.out.dm hdm)
  have HDx := Lib.hid hdd
  have HIx := Lib.hid hii
  have q3 : w3.cell? ⟨w.heap.size, 3, none⟩ = some (.int .i64 n) := blk_cell HB3.out 3
  have q4 : w3.cell? ⟨w.heap.size, 4, none⟩ = some (.int .i64 cd) := blk_cell HB3.out 4
  have hne : w.heap.size ≠ m := by
    intro hh
    rw [hh] at HB3
    exact (IsT.ne ⟨_, HB3.out⟩ (by decide)) HR3.out.isM
  clear hdd hii hdm
  have HFa := Lib.hid (arm_r w3 n 11)
  unfold IsInt at HFa
  go_wp2_with fail
  refine HFa.out.mono ?_
  rintro e w4 ⟨⟨c4, rfl⟩, rfl⟩
  have k8 : w4.cell? ⟨m, 8, none⟩ = some (.int .i64 r.cr) := blk_cell HR3.out.row 8
  have z8 := blk_free HR3.out.row 8
  obtain ⟨r5, hr5⟩ := HR3.out.reset 8 (.inr (.inl rfl)) c4
  have HR5 := Lib.hid hr5
  clear hr5
  go_wp2_with fail
  go_ret
  exact ⟨⟨_, rfl⟩, ⟨_, HDx.out.modR (mod_set w4 m 8 (.int .i64 c4)) HR3.out.isM hm0, HIx.out.mono (by omega), HSx.out⟩, ⟨_, _, _, _, _, HR5.out.mono (by omega)⟩⟩
end
end Go.Proofs.Ytfcoaafmjllpfaa

