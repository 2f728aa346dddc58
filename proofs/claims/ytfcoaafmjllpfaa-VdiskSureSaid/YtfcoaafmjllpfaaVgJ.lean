/- The disk: each call, with all that stays so. -/
import Derived.Test.YtfcoaafmjllpfaaVgI
namespace Go.Proofs.Ytfcoaafmjllpfaa
open Go.ChangeShapes Go.WideShapes Go.ChangeAt Go.RowKit
set_option linter.unusedVariables false
set_option linter.unusedSimpArgs false

/-- a disk made since w0, all of it in new memory -/
def DD (w0 w : World) (g : Nat) (x : DSt) : Prop := ∃ p : DPl, DOk w g p x ∧ p.n1 = x.L.length ∧ p.n2 = x.S.length ∧ (∀ q ∈ p.all g x.ps, w0.heap.size ≤ q) ∧ Mod [] w0 w
section
variable {w0 w w' : World} {g : Nat} {x : DSt}
theorem DD.make {p : DPl} (h : DOk w g p x) (hb : ∀ q ∈ p.all g x.ps, w0.heap.size ≤ q) (hm : Mod [] w0 w) : DD w0 w g x :=
  ⟨{ p with n1 := x.L.length, n2 := x.S.length }, ⟨h.row, h.names.tight, h.sure.tight, h.turns, h.known, h.ne, h.files, h.apart, h.dup, h.inL, h.inS, h.inT⟩, rfl, rfl, hb, hm⟩
theorem DD.act {p : DPl} (hb : ∀ q ∈ p.all g x.ps, w0.heap.size ≤ q) (hm : Mod [] w0 w) {r : DSt × Int} {e : Ending} (ha : Act w g x p r e w') : e = .returned (.int .i64 r.2) ∧ DD w0 w' g r.1 := by
  obtain ⟨p', hp, hq⟩ := ha.ex
  have hs := hm.size
  exact ⟨ha.ends, DD.make hp (fun q hq2 => (hq q hq2).elim (fun h => hb q h) (fun h => Nat.le_trans hs h)) (hm.trans' ha.mod (fun q hq2 => .inr (hb q hq2)))⟩
theorem DD.quiet (h : DD w0 w g x) (hm : Mod [] w w') : DD w0 w' g x := by
  obtain ⟨p, h1, h2, h3, h4, h5⟩ := h
  exact ⟨p, h1.quiet hm, h2, h3, h4, h5.trans hm⟩
theorem DD.mod (h : DD w0 w g x) : Mod [] w0 w := by obtain ⟨p, h1, h2, h3, h4, h5⟩ := h; exact h5
theorem DD.new (h : DD w0 w g x) : w0.heap.size ≤ g ∧ g < w.heap.size := by
  obtain ⟨p, h1, h2, h3, h4, h5⟩ := h
  exact ⟨h4 g DPl.all_g, blk_lt h1.row⟩
theorem DD.dup (h : DD w0 w g x) : x.ps.Nodup := by obtain ⟨p, h1, -⟩ := h; exact h1.dup
theorem DD.keys (h : DD w0 w g x) : KeysNe x.L := by obtain ⟨p, h1, -⟩ := h; exact h1.names.keys
theorem DD.keysS (h : DD w0 w g x) : KeysNe x.S := by obtain ⟨p, h1, -⟩ := h; exact h1.sure.keys
end
theorem toC_open {x : DSt} {k : List UInt8} (h : (toC x k).2 = 0) : x.d.begin.2 = 0 ∧ x.d.begin.1.down = false ∧ ∃ b, findB x.L k = some b := by
  unfold toC at h
  split at h
  · rename_i hc; exact absurd h hc
  · rename_i hc
    have hc0 : x.d.begin.2 = 0 := by simpa using hc
    unfold fileV at h
    split at h
    · cases h
    · rename_i hd
      cases hf : findB x.L k with
      | none => rw [hf] at h; cases h
      | some b => exact ⟨hc0, by simpa using hd, b, rfl⟩
theorem Inv.crash {N : Nat} {x : DSt} (h : Inv N x) (n : Int) (hn : n ≤ 9223372036854775807) : Inv N { x with d := { x.d with crash := n } } := h.row _ rfl rfl h.c0 h.c1 hn h.fa
theorem Inv.failing {N : Nat} {x : DSt} (h : Inv N x) (n e : Int) (hn : n ≤ 9223372036854775807) : Inv N { x with d := x.d.failing n e } := h.row _ rfl rfl h.c0 h.c1 h.cr (by unfold DiskN.failing; simp only; split <;> omega)
theorem Inv.create {N : Nat} {x : DSt} (h : Inv N x) (s : ByteArray) (hs : s.size ≤ maxLen) (fb : Nat) (hd : (createS x s fb).1.ps.Nodup) : Inv (N + 3) (createS x s fb).1 := by
  have h1 := h.begun
  have h3 : Inv (N + 3) { x with d := x.d.begin.1 } := h1.mono (by omega)
  unfold createS at hd ⊢
  split
  · exact h3
  split
  · exact h3
  split
  · exact h3
  split
  · exact h3
  · rename_i c1 c2 o hf c3
    rw [if_neg c1, if_neg c2, hf] at hd
    simp only at hd
    rw [if_neg c3] at hd
    have hnew : fb ∉ x.ps := by
      have h5 : (x.ps ++ [fb]).Nodup := hd
      rw [List.nodup_append] at h5
      intro hm
      exact h5.2.2 fb hm fb (List.mem_singleton.2 rfl) rfl
    have hm2 := h1.more fb hnew [] (by have := h1.cap0; simpa using this)
    refine hm2.turned ⟨ByteArray.empty, s, fptr fb⟩ (by simp [maxLen]) hs (fun _ => ⟨rfl, List.mem_append_right _ (List.mem_singleton.2 rfl)⟩) ?_
    intro _ q hq he
    exfalso
    have h6 := h1.mem q hq
    rw [he] at h6
    exact hnew h6
theorem Inv.append {N : Nat} {x : DSt} (h : Inv N x) (k : List UInt8) (xs : List Int) : Inv (N + 3) (appendS x k xs).1 := by
  have h1 := h.begun
  have h3 : Inv (N + 3) { x with d := x.d.begin.1 } := h1.mono (by omega)
  unfold appendS
  split
  · exact h3
  · rename_i hc
    obtain ⟨-, hd, b, hb⟩ := toC_open (by simpa using hc)
    rw [hb]
    exact (h1.written hd hb _ (Nat.le_refl _) xs).mono (by omega)
theorem Inv.pwrite {N : Nat} {x : DSt} (h : Inv N x) (k : List UInt8) (n : Int) (xs : List Int) : Inv (N + 3) (pwriteS x k n xs).1 := by
  have h1 := h.begun
  have h3 : Inv (N + 3) { x with d := x.d.begin.1 } := h1.mono (by omega)
  unfold pwriteS
  split
  · exact h3
  · rename_i hc
    obtain ⟨-, hd, b, hb⟩ := toC_open (by simpa using hc)
    rw [hb]
    simp only
    split
    · exact h3
    · exact (h1.written hd hb _ (by show n.toNat ≤ (x.F b).seen.length; omega) xs).mono (by omega)
theorem Inv.sync {N : Nat} {x : DSt} (h : Inv N x) (k : List UInt8) : Inv (N + 3) (syncS x k).1 := by
  have h1 := h.begun
  have h3 : Inv (N + 3) { x with d := x.d.begin.1 } := h1.mono (by omega)
  unfold syncS
  split
  · exact h3
  · rename_i hc
    obtain ⟨-, hd, b, hb⟩ := toC_open (by simpa using hc)
    rw [hb]
    exact h3.synced b (h1.mem _ (findB_pair hb))
theorem Inv.rename {N : Nat} {x : DSt} (h : Inv N x) (fr to_ : ByteArray) (hf : fr.size ≤ maxLen) (ht : to_.size ≤ maxLen) : Inv (N + 3) (renameS x fr to_).1 := by
  have h1 := h.begun
  have h3 : Inv (N + 3) { x with d := x.d.begin.1 } := h1.mono (by omega)
  unfold renameS
  split
  · exact h3
  split
  · exact h3
  split
  · exact h3
  · cases hb : findB x.L fr.data.toList with
    | none => exact h3
    | some b =>
      have hp := findB_pair hb
      refine (h1.turned ⟨fr, to_, fptr b⟩ hf ht (fun _ => ⟨rfl, h1.mem _ hp⟩) ?_).mono (by omega)
      intro _ q hq he
      have h5 := h1.one x.ts.length
      rw [List.take_length, ← h1.names] at h5
      have := OneNm.eq h5 hq hp he
      rw [this]
theorem Inv.unlink {N : Nat} {x : DSt} (h : Inv N x) (s : ByteArray) (hs : s.size ≤ maxLen) : Inv (N + 3) (unlinkS x s).1 := by
  have h1 := h.begun
  have h3 : Inv (N + 3) { x with d := x.d.begin.1 } := h1.mono (by omega)
  unfold unlinkS
  split
  · exact h3
  · exact (h1.turned ⟨s, ByteArray.empty, .pointer none⟩ hs (by simp [maxLen]) (fun hz => absurd rfl hz) (fun hz => absurd rfl hz)).mono (by omega)
theorem Inv.syncDir {N : Nat} {x : DSt} (h : Inv N x) : Inv (N + 3) (syncDirS x).1 := by
  have h1 := h.begun
  have h3 : Inv (N + 3) { x with d := x.d.begin.1 } := h1.mono (by omega)
  unfold syncDirS
  split
  · exact h3
  · exact h3.kept _
theorem overs_fit {c : Int} : ∀ {ws : List (Nat × List Int)} {l : List Int}, (l.length : Int) ≤ c → (∀ m ∈ ws, ((m.1 + m.2.length : Nat) : Int) ≤ c) → ((overs l ws).length : Int) ≤ c
  | [], l, h, _ => h
  | m :: r, l, h, hm => by
    have e : overs l (m :: r) = overs (overL l m.1 m.2) r := rfl
    rw [e]
    refine overs_fit ?_ (fun q hq => hm q (List.mem_cons_of_mem _ hq))
    have h1 := overL_le l m.2 m.1
    have h2 := hm m List.mem_cons_self
    omega
theorem cutW_fit {c : Int} : ∀ {ns : List Int} {ws : List (Nat × List Int)}, (∀ m ∈ ws, ((m.1 + m.2.length : Nat) : Int) ≤ c) → ∀ m ∈ cutW ns ws, ((m.1 + m.2.length : Nat) : Int) ≤ c
  | [], ws, _, m, hm => by unfold cutW at hm; cases hm
  | n :: ns, [], _, m, hm => by unfold cutW at hm; cases hm
  | n :: ns, w :: ws, h, m, hm => by
    unfold cutW at hm
    rcases List.mem_cons.1 hm with h1 | h1
    · rw [h1]
      have h2 := h w List.mem_cons_self
      have h3 : (w.2.take (withinI n w.2.length).toNat).length ≤ w.2.length := by rw [List.length_take]; omega
      simp only
      omega
    · exact cutW_fit (fun q hq => h q (List.mem_cons_of_mem _ hq)) m h1
theorem FOk.restore {N : Nat} {cap made : Int} {f : FileD} (h : FOk N cap made f) (keep : List Int) : FOk N cap made (f.restore keep) := by
  have h1 := overs_fit h.sure (cutW_fit (ns := keep) h.wr)
  exact ⟨rfl, h1, h1, Nat.zero_le _, nofun, h.m0, h.m1⟩
theorem keepF_ok {N : Nat} {cap made : Int} {F : Nat → FileD} {keep : List Int} (ps : List Nat) {c : Nat} (h : FOk N cap made (F c)) : FOk N cap made ((keepF F keep ps).1 c) := by
  unfold keepF
  suffices hh : ∀ (ps : List Nat) (st : (Nat → FileD) × List Int), FOk N cap made (st.1 c) → FOk N cap made ((ps.foldl kwStep st).1 c) from hh ps (F, keep) h
  intro ps
  induction ps with
  | nil => intro st h; exact h
  | cons b r ih =>
    intro st h
    rw [List.foldl_cons]
    apply ih
    unfold kwStep
    simp only
    split
    · rename_i he; rw [← he]; exact h.restore _
    · exact h
theorem Inv.boot {N : Nat} {x : DSt} (h : Inv N x) (turns : Int) (keep : List Int) : Inv N (bootS x turns keep).1 := by
  unfold bootS
  split
  · exact h
  · have h2 : Inv N { x with F := (keepF x.F keep x.ps).1 } :=
      ⟨h.cap0, h.cap1, h.c0, h.c1, h.cr, h.fa, h.m0, h.m1, h.tsl, h.pl, fun b hb => keepF_ok _ (h.file b hb), h.made.imp (fun {a c} hac => by rw [keepF_made, keepF_made]; exact hac), h.names, h.one, h.memT, h.tok⟩
    exact (h2.kept _).row _ rfl rfl h.c0 h.c1 (by show (-1 : Int) ≤ _; omega) (by show (-1 : Int) ≤ _; omega)
section
variable {w0 w : World} {g : Nat} {x : DSt} {N : Nat}
theorem create_dd (h : DD w0 w g x) (hi : Inv N x) (hN : N ≤ 90000) (s : ByteArray) (hs : s.size ≤ 1000000000) :
    Calls Try.prog 10 #[.pointer (some ⟨g, 0, none⟩), .string s] w fun e w' => ∃ fb, e = .returned (.int .i64 (createS x s fb).2) ∧ DD w0 w' g (createS x s fb).1 ∧ Inv (N + 3) (createS x s fb).1 := by
  obtain ⟨p, h1, h2, h3, h4, h5⟩ := h
  refine (create_any w g p x h1 (hi.in (by omega)) (by rw [h2]; have := hi.lenL; simp only [maxLen]; omega) (by have := hi.tl; omega) hi.m0 (by have := hi.m1; omega) (by have := hi.pl; omega) s hs).mono ?_
  rintro e w' ⟨fb, ha⟩
  obtain ⟨e1, hd⟩ := DD.act h4 h5 ha
  exact ⟨fb, e1, hd, hi.create s (by simp only [maxLen]; omega) fb hd.dup⟩
theorem append_dd (h : DD w0 w g x) (hi : Inv N x) (hN : N ≤ 90000) (s : ByteArray) (hs : s.size ≤ 1000000000) (ba : Option Addr) (bn bc : Nat) (xs : List Int) (hx : Cells8 w ba xs) (hbn : bn = xs.length) (hxl : xs.length ≤ 1000000000) (hba : xs ≠ [] → ∀ y, ba = some y → y.block ≠ g) :
    Calls Try.prog 11 #[.pointer (some ⟨g, 0, none⟩), .string s, .slice ba bn bc] w fun e w' => e = .returned (.int .i64 (appendS x s.data.toList xs).2) ∧ DD w0 w' g (appendS x s.data.toList xs).1 ∧ Inv (N + 3) (appendS x s.data.toList xs).1 := by
  obtain ⟨p, h1, h2, h3, h4, h5⟩ := h
  refine (append_any w g p x h1 (hi.in (by omega)) (hi.fit (by omega)) (hi.used (by omega)) s (by simp only [maxLen]; omega) ba bn bc xs hx hbn hxl hba).mono ?_
  intro e w' ha
  obtain ⟨e1, hd⟩ := DD.act h4 h5 ha
  exact ⟨e1, hd, hi.append _ _⟩
theorem pwrite_dd (h : DD w0 w g x) (hi : Inv N x) (hN : N ≤ 90000) (s : ByteArray) (hs : s.size ≤ 1000000000) (n : Int) (ba : Option Addr) (bn bc : Nat) (xs : List Int) (hx : Cells8 w ba xs) (hbn : bn = xs.length) (hxl : xs.length ≤ 1000000000) (hba : xs ≠ [] → ∀ y, ba = some y → y.block ≠ g) :
    Calls Try.prog 37 #[.pointer (some ⟨g, 0, none⟩), .string s, .int .i64 n, .slice ba bn bc] w fun e w' => e = .returned (.int .i64 (pwriteS x s.data.toList n xs).2) ∧ DD w0 w' g (pwriteS x s.data.toList n xs).1 ∧ Inv (N + 3) (pwriteS x s.data.toList n xs).1 := by
  obtain ⟨p, h1, h2, h3, h4, h5⟩ := h
  refine (pwrite_any w g p x h1 (hi.in (by omega)) (hi.fit (by omega)) (hi.used (by omega)) s (by simp only [maxLen]; omega) n ba bn bc xs hx hbn hxl hba).mono ?_
  intro e w' ha
  obtain ⟨e1, hd⟩ := DD.act h4 h5 ha
  exact ⟨e1, hd, hi.pwrite _ _ _⟩
theorem sync_dd (h : DD w0 w g x) (hi : Inv N x) (hN : N ≤ 90000) (s : ByteArray) (hs : s.size ≤ 1000000000) :
    Calls Try.prog 12 #[.pointer (some ⟨g, 0, none⟩), .string s] w fun e w' => e = .returned (.int .i64 (syncS x s.data.toList).2) ∧ DD w0 w' g (syncS x s.data.toList).1 ∧ Inv (N + 3) (syncS x s.data.toList).1 := by
  obtain ⟨p, h1, h2, h3, h4, h5⟩ := h
  refine (sync_act w g p x h1 (hi.in (by omega)) (hi.fit (by omega)) s (by simp only [maxLen]; omega)).mono ?_
  intro e w' ha
  obtain ⟨e1, hd⟩ := DD.act h4 h5 ha
  exact ⟨e1, hd, hi.sync _⟩
theorem rename_dd (h : DD w0 w g x) (hi : Inv N x) (hN : N ≤ 90000) (fr to_ : ByteArray) (hf : fr.size ≤ 1000000000) (ht : to_.size ≤ 1000000000) :
    Calls Try.prog 20 #[.pointer (some ⟨g, 0, none⟩), .string fr, .string to_] w fun e w' => e = .returned (.int .i64 (renameS x fr to_).2) ∧ DD w0 w' g (renameS x fr to_).1 ∧ Inv (N + 3) (renameS x fr to_).1 := by
  obtain ⟨p, h1, h2, h3, h4, h5⟩ := h
  refine (rename_any w g p x h1 (hi.in (by omega)) (by rw [h2]; have := hi.lenL; simp only [maxLen]; omega) (by have := hi.tl; omega) fr to_ hf ht).mono ?_
  intro e w' ha
  obtain ⟨e1, hd⟩ := DD.act h4 h5 ha
  exact ⟨e1, hd, hi.rename _ _ (by simp only [maxLen]; omega) (by simp only [maxLen]; omega)⟩
theorem unlink_dd (h : DD w0 w g x) (hi : Inv N x) (hN : N ≤ 90000) (s : ByteArray) (hs : s.size ≤ 1000000000) :
    Calls Try.prog 41 #[.pointer (some ⟨g, 0, none⟩), .string s] w fun e w' => e = .returned (.int .i64 (unlinkS x s).2) ∧ DD w0 w' g (unlinkS x s).1 ∧ Inv (N + 3) (unlinkS x s).1 := by
  obtain ⟨p, h1, h2, h3, h4, h5⟩ := h
  refine (unlink_any w g p x h1 (hi.in (by omega)) (by rw [h2]; have := hi.lenL; simp only [maxLen]; omega) (by have := hi.tl; omega) s (by simp only [maxLen]; omega)).mono ?_
  intro e w' ha
  obtain ⟨e1, hd⟩ := DD.act h4 h5 ha
  exact ⟨e1, hd, hi.unlink _ (by simp only [maxLen]; omega)⟩
theorem syncDir_dd (h : DD w0 w g x) (hi : Inv N x) (hN : N ≤ 90000) :
    Calls Try.prog 13 #[.pointer (some ⟨g, 0, none⟩)] w fun e w' => e = .returned (.int .i64 (syncDirS x).2) ∧ DD w0 w' g (syncDirS x).1 ∧ Inv (N + 3) (syncDirS x).1 := by
  obtain ⟨p, h1, h2, h3, h4, h5⟩ := h
  refine (syncDir_any w g p x h1 (hi.in (by omega)) (hi.keep (by omega)) (by rw [h3]; have := hi.tsl; simp only [maxLen]; omega)).mono ?_
  intro e w' ha
  obtain ⟨e1, hd⟩ := DD.act h4 h5 ha
  exact ⟨e1, hd, hi.syncDir⟩
theorem boot_dd (h : DD w0 w g x) (hi : Inv N x) (hN : N ≤ 90000) (turns : Int) (ht0 : -9223372036854775808 ≤ turns) (ht1 : turns ≤ 9223372036854775807) (ka : Option Addr) (kc : Nat) (keep : List Int) (hK : KeepAt w0 ka keep) (hkc : keep.length ≤ kc) (hkl : kc ≤ 9223372036854775807) (hd : keep ≠ [] → ∀ q ∈ blocks ka, q < w0.heap.size) :
    Calls Try.prog 18 #[.pointer (some ⟨g, 0, none⟩), .int .i64 turns, .slice ka keep.length kc] w fun e w' => e = .returned (.int .i64 (bootS x turns keep).2) ∧ DD w0 w' g (bootS x turns keep).1 ∧ Inv N (bootS x turns keep).1 := by
  obtain ⟨p, h1, h2, h3, h4, h5⟩ := h
  refine (boot_any w g p x h1 (hi.fitK (by omega)) (hi.keep (by omega)) (by rw [h3]; have := hi.tsl; simp only [maxLen]; omega) (by have := hi.pl; omega) turns ht0 ht1 ka kc keep (hK.mod h5 (by simp)) hkc hkl (fun hne q hq => ⟨Nat.lt_of_lt_of_le (hd hne q hq) h5.size, fun h6 => by have := hd hne q hq; have := h4 q h6; omega⟩)).mono ?_
  intro e w' ha
  obtain ⟨e1, hd⟩ := DD.act h4 h5 ha
  exact ⟨e1, hd, hi.boot _ _⟩
theorem crash_dd (h : DD w0 w g x) (hi : Inv N x) (n : Int) (hn : n ≤ 9223372036854775807) :
    Calls Try.prog 16 #[.pointer (some ⟨g, 0, none⟩), .int .i64 n] w fun e w' => e = .returned (.tuple #[]) ∧ DD w0 w' g { x with d := { x.d with crash := n } } ∧ Inv N { x with d := { x.d with crash := n } } := by
  obtain ⟨p, h1, h2, h3, h4, h5⟩ := h
  refine (crash_any w g x.d _ _ _ _ h1.row n).mono ?_
  rintro e w' ⟨e1, hr, hm⟩
  exact ⟨e1, DD.make (h1.setRow hm _ hr) h4 (h5.trans' hm (fun q hq => by simp only [List.mem_singleton] at hq; subst hq; exact .inr (h4 q DPl.all_g))), hi.crash n hn⟩
theorem fail_dd (h : DD w0 w g x) (hi : Inv N x) (n c : Int) (hn : n ≤ 9223372036854775807) :
    Calls Try.prog 44 #[.pointer (some ⟨g, 0, none⟩), .int .i64 n, .int .i64 c] w fun e w' => e = .returned (.tuple #[]) ∧ DD w0 w' g { x with d := x.d.failing n c } ∧ Inv N { x with d := x.d.failing n c } := by
  obtain ⟨p, h1, h2, h3, h4, h5⟩ := h
  refine (fail_any w g x.d _ _ _ _ h1.row n c).mono ?_
  rintro e w' ⟨e1, hr, hm⟩
  exact ⟨e1, DD.make (h1.setRow hm _ hr) h4 (h5.trans' hm (fun q hq => by simp only [List.mem_singleton] at hq; subst hq; exact .inr (h4 q DPl.all_g))), hi.failing n c hn⟩
theorem down_dd (h : DD w0 w g x) : Calls Try.prog 17 #[.pointer (some ⟨g, 0, none⟩)] w fun e w' => e = .returned (.bool x.d.down) ∧ w = w' := by
  obtain ⟨p, h1, h2, h3, h4, h5⟩ := h
  exact down_any w g x.d _ _ _ _ h1.row
theorem DD.filed (h : DD w0 w g x) (hi : Inv N x) : Filed w x.L x.F := by
  obtain ⟨p, h1, h2, h3, h4, h5⟩ := h
  exact DAt.filed h1 (fun b hb => by have := (hi.file b hb).seen; have := hi.cap1; omega)
theorem read_dd (h : DD w0 w g x) (hi : Inv N x) (s : ByteArray) (hs : s.size ≤ maxLen) :
    Calls Try.prog 19 #[.pointer (some ⟨g, 0, none⟩), .string s] w (BytesR (gotR x.d x.L x.F s.data.toList) w) := by
  have hF := h.filed hi
  obtain ⟨p, h1, h2, h3, h4, h5⟩ := h
  exact read_any w g x.d _ _ _ _ h1.row _ _ h1.names _ hF s hs
theorem readAt_dd (h : DD w0 w g x) (hi : Inv N x) (s : ByteArray) (hs : s.size ≤ maxLen) (i m : Int) (hr : -9223372036854775808 ≤ i ∧ i ≤ 9223372036854775807) (hm : -9223372036854775808 ≤ m ∧ m ≤ 9223372036854775807) :
    Calls Try.prog 8 #[.pointer (some ⟨g, 0, none⟩), .string s, .int .i64 i, .int .i64 m] w (BytesR (atR (gotR x.d x.L x.F s.data.toList) i m) w) := by
  have hF := h.filed hi
  obtain ⟨p, h1, h2, h3, h4, h5⟩ := h
  exact readAt_any w g x.d _ _ _ _ h1.row _ _ h1.names _ hF s hs i m hr hm
end
theorem Inv.step {N : Nat} {x : DSt} (h : Inv N { x with S := x.L }) (hts : x.ts = []) (k : ByteArray) (l : List Int) (fb : Nat) (hfb : fb ∉ x.ps) (hl : (l.length : Int) ≤ x.d.cap) : Inv (N + 1) { newStep x ((k, l), fb) with S := (newStep x ((k, l), fb)).L } := by
  have hm := h.more fb hfb l hl
  have hlen : (putB x.L k.data.toList fb).length ≤ x.L.length + 1 := by
    unfold putB; rw [insB_len]; have := delB_len x.L k.data.toList; omega
  have hone : OneNm x.L := by
    have h1 := h.one 0
    simpa [turnsL] using h1
  have hmem : ∀ q ∈ x.L, q.2 ∈ x.ps := h.mem
  have e : ∀ j, turnsL (putB x.L k.data.toList fb) (x.ts.take j) = putB x.L k.data.toList fb := fun j => by rw [hts, List.take_nil]; rfl
  refine ⟨hm.cap0, hm.cap1, hm.c0, hm.c1, hm.cr, hm.fa, hm.m0, hm.m1, ?_, hm.pl, hm.file, hm.made, ?_, ?_, ?_, ?_⟩
  · show (putB x.L k.data.toList fb).length + x.ts.length ≤ N + 1
    have h1 : x.L.length + x.ts.length ≤ N := h.tsl
    omega
  · show putB x.L k.data.toList fb = turnsL (putB x.L k.data.toList fb) x.ts
    rw [hts]; rfl
  · intro j
    show OneNm (turnsL (putB x.L k.data.toList fb) (x.ts.take j))
    rw [e]
    refine OneNm.ins (hone.del _) ?_
    intro q hq he
    have h5 := hmem q (List.mem_filter.1 hq).1
    simp only at he
    rw [he] at h5
    exact hfb h5
  · intro j
    show ∀ q ∈ turnsL (putB x.L k.data.toList fb) (x.ts.take j), q.2 ∈ x.ps ++ [fb]
    rw [e]
    intro q hq
    rcases mem_insB hq with h1 | h1
    · rw [h1]; exact List.mem_append_right _ (List.mem_singleton.2 rfl)
    · exact List.mem_append_left _ (hmem q (List.mem_filter.1 h1).1)
  · intro t ht
    have : t ∈ x.ts := ht
    rw [hts] at this; cases this
theorem Inv.steps : ∀ (l : List ((ByteArray × List Int) × Nat)) (x : DSt) (N : Nat), Inv N { x with S := x.L } → x.ts = [] → (x.ps ++ l.map (·.2)).Nodup → (∀ f ∈ l, (f.1.2.length : Int) ≤ x.d.cap) → Inv (N + l.length) { l.foldl newStep x with S := (l.foldl newStep x).L }
  | [], x, N, h, _, _, _ => h
  | f :: r, x, N, h, hts, hd, hl => by
    have hfb : f.2 ∉ x.ps := by
      intro hm
      rw [List.map_cons, List.nodup_append] at hd
      exact hd.2.2 _ hm _ List.mem_cons_self rfl
    have h1 := h.step hts f.1.1 f.1.2 f.2 hfb (hl f List.mem_cons_self)
    have h2 := Inv.steps r (newStep x f) (N + 1) h1 hts (by simpa [newStep, DSt.more] using hd) (fun q hq => hl q (List.mem_cons_of_mem _ hq))
    rw [List.length_cons, Nat.add_comm r.length 1, ← Nat.add_assoc]
    exact h2
theorem Inv.zero (cap : Int) (h0 : 0 ≤ cap) (h1 : cap ≤ 4194304) : Inv 0 { newZero cap with S := (newZero cap).L } := by
  refine ⟨h0, h1, Int.le_refl _, Int.le_refl _, ?_, ?_, Int.le_refl _, Int.le_refl _, Nat.le_refl _, Nat.le_refl _, nofun, List.Pairwise.nil, rfl, ?_, ?_, nofun⟩
  · show (-1 : Int) ≤ _; omega
  · show (-1 : Int) ≤ _; omega
  · intro k; show OneNm (turnsL [] (([] : List TurnM).take k)); rw [List.take_nil]; exact List.Pairwise.nil
  · intro k; show ∀ q ∈ turnsL [] (([] : List TurnM).take k), _; rw [List.take_nil]; nofun
theorem lens_one {fs : FsL} {f : ByteArray × List Int} (h : f ∈ fs) : f.2.length ≤ lensN fs := by
  unfold lensN
  induction fs with
  | nil => cases h
  | cons a r ih =>
    rw [List.map_cons, List.sum_cons]
    rcases List.mem_cons.1 h with rfl | h1
    · omega
    · have := ih h1; omega
theorem new_dd (w : World) (fa : Option Addr) (fc : Nat) (fs : FsL) (cap : Int) (hF : FilesAt w fa fs) (hfc : fs.length ≤ fc) (hc0 : 1 ≤ cap) (hc1 : cap ≤ 4194304) (hl : fs.length ≤ 1024) (hok : NewOk cap fs) :
    Calls Try.prog 7 #[.slice fa fs.length fc, .int .i64 cap] w fun e w' => ∃ g fbs, e = .returned (.pointer (some ⟨g, 0, none⟩)) ∧ fbs.length = fs.length ∧ DD w w' g (newD cap (fs.zip fbs)) ∧ Inv fs.length (newD cap (fs.zip fbs)) ∧ fbs.Nodup := by
  refine (new_any w fa fc fs cap hF hfc hc0 hc1 hl hok).mono ?_
  rintro e w' ⟨g, e1, p, fbs, hlen, hd, hb, hm⟩
  have hdd := DD.make hd hb hm
  have hps : (newD cap (fs.zip fbs)).ps = fbs := by
    show (newX cap (fs.zip fbs)).ps = fbs
    rw [newX_ps, List.map_snd_zip (by omega)]
  have hnd : fbs.Nodup := by rw [← hps]; exact hdd.dup
  refine ⟨g, fbs, e1, hlen, hdd, ?_, hnd⟩
  have h1 := Inv.steps (fs.zip fbs) (newZero cap) 0 (Inv.zero cap (by omega) hc1) rfl (by show ([] ++ _).Nodup; rw [List.nil_append, List.map_snd_zip (by omega)]; exact hnd) (fun f hf => by
    have h2 := lens_one (List.of_mem_zip hf).1
    have h3 := hok.room
    show (f.1.2.length : Int) ≤ cap
    omega)
  have e2 : 0 + (fs.zip fbs).length = fs.length := by rw [List.length_zip]; omega
  rw [e2] at h1
  exact h1
end Go.Proofs.Ytfcoaafmjllpfaa
