/- The disk: what stays so, whatever is done. -/
import Derived.Test.YtfcoaafmjllpfaaVgH
namespace Go.Proofs.Ytfcoaafmjllpfaa
open Go.ChangeShapes Go.WideShapes Go.ChangeAt Go.RowKit
set_option linter.unusedVariables false
set_option linter.unusedSimpArgs false

/-- a file within its bounds -/
structure FOk (N : Nat) (cap made : Int) (f : FileD) : Prop where
  ok : f.ok
  sure : (f.sure.length : Int) ≤ cap
  seen : (f.seen.length : Int) ≤ cap
  wl : f.writes.length ≤ N
  wr : ∀ m ∈ f.writes, ((m.1 + m.2.length : Nat) : Int) ≤ cap
  m0 : 0 ≤ f.made
  m1 : f.made < made
structure Inv (N : Nat) (x : DSt) : Prop where
  cap0 : 0 ≤ x.d.cap
  cap1 : x.d.cap ≤ 4194304
  c0 : 0 ≤ x.d.calls
  c1 : x.d.calls ≤ N
  cr : x.d.crash ≤ 9223372036854775807
  fa : x.d.fail ≤ 9223372036854775807
  m0 : 0 ≤ x.d.made
  m1 : x.d.made ≤ N
  tsl : x.S.length + x.ts.length ≤ N
  pl : x.ps.length ≤ N
  file : ∀ b ∈ x.ps, FOk N x.d.cap x.d.made (x.F b)
  made : Made x.F x.ps
  names : x.L = turnsL x.S x.ts
  one : ∀ k, OneNm (turnsL x.S (x.ts.take k))
  memT : ∀ k, ∀ q ∈ turnsL x.S (x.ts.take k), q.2 ∈ x.ps
  tok : TsOk x
theorem FOk.mono {N M : Nat} {cap m m' : Int} {f : FileD} (h : FOk N cap m f) (hN : N ≤ M) (hm : m ≤ m') : FOk M cap m' f := ⟨h.ok, h.sure, h.seen, Nat.le_trans h.wl hN, h.wr, h.m0, Int.lt_of_lt_of_le h.m1 hm⟩
theorem Inv.mono {N M : Nat} {x : DSt} (h : Inv N x) (hN : N ≤ M) : Inv M x :=
  ⟨h.cap0, h.cap1, h.c0, by have := h.c1; omega, h.cr, h.fa, h.m0, by have := h.m1; omega, by have := h.tsl; omega, by have := h.pl; omega, fun b hb => (h.file b hb).mono hN (Int.le_refl _), h.made, h.names, h.one, h.memT, h.tok⟩
theorem Inv.tl {N : Nat} {x : DSt} (h : Inv N x) : x.ts.length ≤ N := by have := h.tsl; omega
theorem Inv.mem {N : Nat} {x : DSt} (h : Inv N x) : ∀ q ∈ x.L, q.2 ∈ x.ps := by
  have h1 := h.memT x.ts.length
  rw [List.take_length, ← h.names] at h1
  exact h1
theorem insB_len (x : List UInt8 × Nat) : ∀ L : NmL, (insB x L).length = L.length + 1
  | [] => rfl
  | y :: r => by unfold insB; split <;> simp [insB_len x r]
theorem delB_len (L : NmL) (k : List UInt8) : (delB L k).length ≤ L.length := List.length_filter_le _ _
theorem turnL_len (L : NmL) (fr to_ : ByteArray) (b : Nat) : (turnL L fr to_ b).length ≤ L.length + 1 := by
  unfold turnL
  split
  · have := delB_len L fr.data.toList; omega
  · unfold putB
    rw [insB_len]
    have h1 := delB_len (delB L fr.data.toList) to_.data.toList
    have h2 := delB_len L fr.data.toList
    omega
theorem turnsL_len : ∀ (ts : List TurnM) (L : NmL), (turnsL L ts).length ≤ L.length + ts.length
  | [], L => by simp [turnsL]
  | t :: r, L => by
    have h1 := turnsL_len r (turnL L t.fr t.to_ t.blk)
    have h2 := turnL_len L t.fr t.to_ t.blk
    have e : turnsL L (t :: r) = turnsL (turnL L t.fr t.to_ t.blk) r := rfl
    rw [e, List.length_cons]
    omega
theorem Inv.lenL {N : Nat} {x : DSt} (h : Inv N x) : x.L.length ≤ N := by
  have h1 := turnsL_len x.ts x.S
  rw [← h.names] at h1
  have := h.tsl; omega
theorem Inv.lenT {N : Nat} {x : DSt} (h : Inv N x) (k : Nat) : (turnsL x.S (x.ts.take k)).length ≤ N := by
  have h1 := turnsL_len (x.ts.take k) x.S
  have h2 : (x.ts.take k).length ≤ x.ts.length := by rw [List.length_take]; omega
  have := h.tsl; omega
theorem usedN_cons (F : Nat → FileD) (p : List UInt8 × Nat) (L : NmL) : usedN F (p :: L) = (F p.2).seen.length + usedN F L := rfl
theorem usedN_le {F : Nat → FileD} {c : Nat} : ∀ {L : NmL}, (∀ q ∈ L, (F q.2).seen.length ≤ c) → usedN F L ≤ L.length * c
  | [], _ => by simp [usedN, leftSum]
  | p :: L, h => by
    rw [usedN_cons, List.length_cons, Nat.succ_mul]
    have h1 := h p List.mem_cons_self
    have h2 := usedN_le (L := L) (fun q hq => h q (List.mem_cons_of_mem _ hq))
    omega
theorem usedN_ge {F : Nat → FileD} {q : List UInt8 × Nat} : ∀ {L : NmL}, q ∈ L → (F q.2).seen.length ≤ usedN F L
  | p :: L, h => by
    rw [usedN_cons]
    rcases List.mem_cons.1 h with rfl | h1
    · omega
    · have := usedN_ge (F := F) h1; omega
theorem findB_pair {L : NmL} {k : List UInt8} {b : Nat} (h : findB L k = some b) : (k, b) ∈ L := by
  unfold findB at h
  rw [Option.map_eq_some_iff] at h
  obtain ⟨q, hq, rfl⟩ := h
  have h1 := List.find?_some hq
  have h2 := List.mem_of_find?_eq_some hq
  have e : q.1 = k := by simpa using h1
  rw [← e]
  exact h2
theorem Inv.used {N : Nat} {x : DSt} (h : Inv N x) (hN : N ≤ 100000) : usedN x.F x.L ≤ 1000000000000 := by
  have hc0 := h.cap0
  have hc1 := h.cap1
  have h1 := usedN_le (F := x.F) (c := 4194304) (L := x.L) (fun q hq => by have := (h.file q.2 (h.mem q hq)).seen; omega)
  have h2 := h.lenL
  have h3 : x.L.length * 4194304 ≤ N * 4194304 := Nat.mul_le_mul_right _ h2
  omega
theorem Inv.in {N : Nat} {x : DSt} (h : Inv N x) (hN : N ≤ 100000) : x.d.In := ⟨h.c0, by have := h.c1; omega, h.cr, h.fa⟩
theorem Inv.fit {N : Nat} {x : DSt} (h : Inv N x) (hN : N ≤ 100000) : x.Fit := fun b hb => by
  have hf := h.file b hb
  have hc := h.cap1
  refine ⟨hf.ok, by have := hf.seen; omega, by have := hf.wl; omega, fun p hp => ?_⟩
  have := hf.wr p hp
  omega
theorem Inv.fitK {N : Nat} {x : DSt} (h : Inv N x) (hN : N ≤ 100000) : x.FitK := fun b hb => by
  have hf := h.file b hb
  have hc := h.cap1
  refine ⟨by have := hf.sure; omega, by have := hf.wl; omega, fun p hp => ?_⟩
  have := hf.wr p hp
  omega
theorem Inv.keep {N : Nat} {x : DSt} (h : Inv N x) (hN : N ≤ 100000) : KeepOk x :=
  ⟨by have := h.tl; omega, h.tok, h.one, h.made, fun k => by have := h.lenT k; omega⟩
theorem ringN_le {a : Int} (h : a ≤ 9223372036854775807) : ringN a ≤ 9223372036854775807 := by unfold ringN; split <;> omega
theorem begin_cap (d : DiskN) : d.begin.1.cap = d.cap := by unfold DiskN.begin; repeat' split
                                                            all_goals rfl
theorem begin_calls (d : DiskN) : d.calls ≤ d.begin.1.calls ∧ d.begin.1.calls ≤ d.calls + 1 := by
  unfold DiskN.begin
  repeat' split
  all_goals simp only []
  all_goals omega
theorem begin_cr {d : DiskN} (h1 : d.crash ≤ 9223372036854775807) (h2 : d.fail ≤ 9223372036854775807) : d.begin.1.crash ≤ 9223372036854775807 ∧ d.begin.1.fail ≤ 9223372036854775807 := by
  have h3 := ringN_le h1
  have h4 := ringN_le h2
  unfold DiskN.begin
  repeat' split
  all_goals simp only []
  all_goals first | exact ⟨h1, h2⟩ | (refine ⟨?_, ?_⟩ <;> first | assumption | omega)
theorem Inv.row {N : Nat} {x : DSt} (h : Inv N x) (d : DiskN) (e1 : d.cap = x.d.cap) (e2 : d.made = x.d.made) (c0 : 0 ≤ d.calls) (c1 : d.calls ≤ N) (cr : d.crash ≤ 9223372036854775807) (fa : d.fail ≤ 9223372036854775807) : Inv N { x with d := d } :=
  ⟨by show 0 ≤ d.cap; rw [e1]; exact h.cap0, by show d.cap ≤ _; rw [e1]; exact h.cap1, c0, c1, cr, fa, by show 0 ≤ d.made; rw [e2]; exact h.m0, by show d.made ≤ _; rw [e2]; exact h.m1, h.tsl, h.pl, fun b hb => by show FOk N d.cap d.made _; rw [e1, e2]; exact h.file b hb, h.made, h.names, h.one, h.memT, h.tok⟩
theorem Inv.begun {N : Nat} {x : DSt} (h : Inv N x) : Inv (N + 1) { x with d := x.d.begin.1 } := by
  have h1 := begin_calls x.d
  have h2 := begin_cr h.cr h.fa
  have h3 := h.c0
  have h4 := h.c1
  exact (h.mono (Nat.le_succ N)).row _ (begin_cap _) (begin_made _) (by omega) (by omega) h2.1 h2.2
theorem Inv.setF {N : Nat} {x : DSt} (h : Inv N x) (b : Nat) (f : FileD) (hf : FOk N x.d.cap x.d.made f) (hm : f.made = (x.F b).made) : Inv N (x.setF b f) := by
  refine ⟨h.cap0, h.cap1, h.c0, h.c1, h.cr, h.fa, h.m0, h.m1, h.tsl, h.pl, ?_, ?_, h.names, h.one, h.memT, h.tok⟩
  · intro c hc
    show FOk N x.d.cap x.d.made (if c = b then f else x.F c)
    split
    · exact hf
    · exact h.file c hc
  · have e : ∀ c, ((x.setF b f).F c).made = (x.F c).made := fun c => by
      show (if c = b then f else x.F c).made = _
      split
      · rename_i he; rw [he]; exact hm
      · rfl
    exact h.made.imp (fun {a c} hac => by rw [e, e]; exact hac)
theorem Inv.synced {N : Nat} {x : DSt} (h : Inv N x) (b : Nat) (hb : b ∈ x.ps) : Inv N (x.setF b (x.F b).sync) := by
  have hf := h.file b hb
  exact h.setF b _ ⟨FileD.ok_sync _, hf.seen, hf.seen, Nat.zero_le _, nofun, hf.m0, hf.m1⟩ rfl
theorem Inv.written {N : Nat} {x : DSt} (h : Inv N x) (hd : x.d.down = false) {key : List UInt8} {b : Nat} (hb : findB x.L key = some b) (k : Nat) (hk : k ≤ (x.F b).seen.length) (xs : List Int) : Inv (N + 1) (writeS x b k xs).1 := by
  unfold writeS
  split
  · exact h.mono (Nat.le_succ N)
  · rename_i hc
    have hq := findB_pair hb
    have hbp := h.mem _ hq
    have hf := h.file b hbp
    have hu := usedN_ge (F := x.F) hq
    simp only at hu
    have hR : usedR x.d x.L x.F = usedN x.F x.L := by unfold usedR; rw [if_neg (by simp [hd])]
    rw [hR] at hc
    have hroom : ((k + xs.length : Nat) : Int) ≤ x.d.cap := by omega
    refine (h.mono (Nat.le_succ N)).setF b _ ⟨FileD.ok_write hf.ok k xs, hf.sure, ?_, ?_, ?_, hf.m0, hf.m1⟩ rfl
    · have h1 := overL_le (x.F b).seen xs k
      show ((overL (x.F b).seen k xs).length : Int) ≤ _
      have := hf.seen
      omega
    · show ((x.F b).writes ++ [(k, xs)]).length ≤ N + 1
      rw [List.length_append, List.length_singleton]
      have := hf.wl; omega
    · intro m hm
      rcases List.mem_append.1 hm with h1 | h1
      · exact hf.wr m h1
      · rw [List.mem_singleton.1 h1]; exact hroom
theorem OneNm.eq {L : NmL} (h : OneNm L) {p q : List UInt8 × Nat} (hp : p ∈ L) (hq : q ∈ L) (e : p.2 = q.2) : p = q := by
  induction L with
  | nil => cases hp
  | cons y r ih =>
    have h' := List.pairwise_cons.1 h
    rcases List.mem_cons.1 hp with rfl | hp1
    · rcases List.mem_cons.1 hq with rfl | hq1
      · rfl
      · exact absurd e (h'.1 q hq1)
    · rcases List.mem_cons.1 hq with rfl | hq1
      · exact absurd e.symm (h'.1 p hp1)
      · exact ih h'.2 hp1 hq1
theorem mem_turnL {L : NmL} {fr to_ : ByteArray} {b : Nat} {q : List UInt8 × Nat} (h : q ∈ turnL L fr to_ b) : (to_.size ≠ 0 ∧ q.2 = b) ∨ q ∈ L := by
  unfold turnL at h
  split at h
  · exact .inr (List.mem_filter.1 h).1
  · rename_i hz
    rcases mem_insB h with h1 | h1
    · exact .inl ⟨hz, by rw [h1]⟩
    · exact .inr (List.mem_filter.1 (List.mem_filter.1 h1).1).1
/-- one more turn -/
theorem Inv.turned {N : Nat} {x : DSt} (h : Inv N x) (m : TurnM) (hf : m.fr.size ≤ maxLen) (ht : m.to_.size ≤ maxLen) (hp : m.to_.size ≠ 0 → m.p = fptr m.blk ∧ m.blk ∈ x.ps) (h1 : m.to_.size ≠ 0 → ∀ q ∈ x.L, q.2 = m.blk → q.1 = m.fr.data.toList) : Inv (N + 1) (turnS x m m.blk) := by
  have hM := h.mono (Nat.le_succ N)
  refine ⟨hM.cap0, hM.cap1, hM.c0, hM.c1, hM.cr, hM.fa, hM.m0, hM.m1, ?_, hM.pl, hM.file, hM.made, ?_, ?_, ?_, ?_⟩
  · show x.S.length + (x.ts ++ [m]).length ≤ N + 1
    rw [List.length_append, List.length_singleton]
    have := h.tsl; omega
  · show turnL x.L m.fr m.to_ m.blk = turnsL x.S (x.ts ++ [m])
    rw [turnsL_app, h.names]
  · intro k
    show OneNm (turnsL x.S ((x.ts ++ [m]).take k))
    by_cases hk : k ≤ x.ts.length
    · rw [List.take_append_of_le_length hk]; exact h.one k
    · rw [List.take_of_length_le (by rw [List.length_append, List.length_singleton]; omega), turnsL_app, ← h.names]
      have h2 := h.one x.ts.length
      rw [List.take_length, ← h.names] at h2
      exact h2.turn _ _ _ h1
  · intro k
    show ∀ q ∈ turnsL x.S ((x.ts ++ [m]).take k), q.2 ∈ x.ps
    by_cases hk : k ≤ x.ts.length
    · rw [List.take_append_of_le_length hk]; exact h.memT k
    · rw [List.take_of_length_le (by rw [List.length_append, List.length_singleton]; omega), turnsL_app, ← h.names]
      intro q hq
      rcases mem_turnL hq with ⟨hz, e⟩ | h2
      · rw [e]; exact (hp hz).2
      · exact h.mem q h2
  · intro t htm
    rcases List.mem_append.1 htm with h2 | h2
    · exact h.tok t h2
    · rw [List.mem_singleton.1 h2]; exact ⟨hf, ht, hp⟩
/-- one more file -/
theorem Inv.more {N : Nat} {x : DSt} (h : Inv N x) (fb : Nat) (hfb : fb ∉ x.ps) (l : List Int) (hl : (l.length : Int) ≤ x.d.cap) : Inv (N + 1) (x.more fb l) := by
  have hM := h.mono (Nat.le_succ N)
  have hm0 := h.m0
  have hm1 := h.m1
  have hF : ∀ c ∈ x.ps, (if c = fb then (⟨x.d.made, l, l, []⟩ : FileD) else x.F c) = x.F c := fun c hc => if_neg (by rintro rfl; exact hfb hc)
  refine ⟨hM.cap0, hM.cap1, hM.c0, hM.c1, hM.cr, hM.fa, by show 0 ≤ x.d.made + 1; omega, by show x.d.made + 1 ≤ ((N + 1 : Nat) : Int); omega, hM.tsl, ?_, ?_, ?_, hM.names, hM.one, fun k q hq => List.mem_append_left _ (h.memT k q hq), ?_⟩
  · show (x.ps ++ [fb]).length ≤ N + 1
    rw [List.length_append, List.length_singleton]
    have := h.pl; omega
  · intro c hc
    show FOk (N + 1) x.d.cap (x.d.made + 1) (if c = fb then (⟨x.d.made, l, l, []⟩ : FileD) else x.F c)
    rcases List.mem_append.1 hc with h2 | h2
    · rw [hF c h2]; exact (h.file c h2).mono (Nat.le_succ N) (by omega)
    · rw [if_pos (List.mem_singleton.1 h2)]
      exact ⟨rfl, hl, hl, Nat.zero_le _, nofun, hm0, by show x.d.made < x.d.made + 1; omega⟩
  · show List.Pairwise _ (x.ps ++ [fb])
    rw [List.pairwise_append]
    refine ⟨?_, List.pairwise_singleton _ _, ?_⟩
    · refine h.made.imp_of_mem ?_
      intro a b ha hb hab
      show (if a = fb then (⟨x.d.made, l, l, []⟩ : FileD) else x.F a).made < (if b = fb then (⟨x.d.made, l, l, []⟩ : FileD) else x.F b).made
      rw [hF a ha, hF b hb]; exact hab
    · intro a ha b hb
      show (if a = fb then (⟨x.d.made, l, l, []⟩ : FileD) else x.F a).made < (if b = fb then (⟨x.d.made, l, l, []⟩ : FileD) else x.F b).made
      rw [hF a ha, if_pos (List.mem_singleton.1 hb)]
      exact (h.file a ha).m1
  · intro t ht
    obtain ⟨h1, h2, h3⟩ := h.tok t ht
    exact ⟨h1, h2, fun hz => ⟨(h3 hz).1, List.mem_append_left _ (h3 hz).2⟩⟩
theorem Inv.kept {N : Nat} {x : DSt} (h : Inv N x) (k : Nat) : Inv N (keepS x k) := by
  have hM := h
  refine ⟨hM.cap0, hM.cap1, hM.c0, hM.c1, hM.cr, hM.fa, hM.m0, hM.m1, h.lenT k, ?_, ?_, ?_, rfl, ?_, ?_, ?_⟩
  · exact Nat.le_trans (List.length_filter_le _ _) hM.pl
  · exact fun b hb => hM.file b (mem_keepPs.1 hb).1
  · exact List.Pairwise.sublist List.filter_sublist h.made
  · intro j; show OneNm (turnsL (turnsL x.S (x.ts.take k)) (([] : List TurnM).take j)); rw [List.take_nil]; exact h.one k
  · intro j
    show ∀ q ∈ turnsL (turnsL x.S (x.ts.take k)) (([] : List TurnM).take j), _
    rw [List.take_nil]
    intro q hq
    exact mem_keepPs.2 ⟨h.memT k q hq, List.mem_map.2 ⟨q, hq, rfl⟩⟩
  · intro t ht; cases ht
end Go.Proofs.Ytfcoaafmjllpfaa
