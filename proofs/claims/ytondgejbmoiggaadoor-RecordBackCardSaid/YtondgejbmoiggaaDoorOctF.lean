/- Contracts of a sink: NewSink, U, I, Text, Raw, Len, Bytes; slices.Clone of bytes. -/
import Derived.Test.YtondgejbmoiggaaDoorOctE
import Derived.Lib.SliceRun
namespace Go.Proofs.YtondgejbmoiggaaDoor
open Go.ChangeShapes Go.WideShapes Go.ChangeAt Go.RowKit
set_option linter.unusedVariables false
set_option linter.unusedSimpArgs false

/-- the sink at block s has the bytes l; v is its slice -/
structure Snk (w : World) (s : Nat) (v : Value) (l : List Int) : Prop where
  cell : w.heap[s]? = some (.cells #[v] 83 (0, 0))
  own : w.ownsRow 0 5 1 v l.length (u8s l)
  ne : v.ownBlock ≠ some s
  bytes : Bytes l

/-- behind a call that puts: the sink has l', in the elder row or in new memory -/
structure Puts (w : World) (s : Nat) (v : Value) (l' : List Int) (v' : Value) (w' : World) : Prop where
  snk : Snk w' s v' l'
  mod : Mod (s :: v.ownBlock.toList) w w'
  blk : ∀ k, v'.ownBlock = some k → v.ownBlock = some k ∨ w.heap.size ≤ k

theorem Snk.lt {w : World} {s : Nat} {v : Value} {l : List Int} (h : Snk w s v l) : s < w.heap.size := (Array.getElem?_eq_some_iff.1 h.cell).1
theorem Snk.mod {F : List Nat} {w w' : World} {s : Nat} {v : Value} {l : List Int} (h : Snk w s v l) (hm : Mod F w w') (hs : s ∉ F) (hv : ∀ k, v.ownBlock = some k → k ∉ F) : Snk w' s v l :=
  ⟨hm.row h.cell hs, hm.owns h.own hv, h.ne, h.bytes⟩
theorem Snk.shape {w : World} {s : Nat} {v : Value} {l : List Int} (h : Snk w s v l) : ∃ a cap, v = .slice a l.length cap := by
  obtain ⟨a, cap, h, _⟩ := owns_shape h.own
  exact ⟨a, cap, h⟩
theorem Puts.refl {w : World} {s : Nat} {v : Value} {l : List Int} (h : Snk w s v l) : Puts w s v l v w := ⟨h, Mod.refl _ _, fun _ hk => Or.inl hk⟩
theorem Puts.trans {w w1 w2 : World} {s : Nat} {v v1 v2 : Value} {l1 l2 : List Int} (h : Puts w s v l1 v1 w1) (k : Puts w1 s v1 l2 v2 w2) : Puts w s v l2 v2 w2 := by
  have hsz := h.mod.size
  refine ⟨k.snk, h.mod.trans' k.mod ?_, ?_⟩
  · intro x hx
    simp only [List.mem_cons, Option.mem_toList] at hx
    rcases hx with rfl | hx
    · left; simp
    · rcases h.blk x hx with h1 | h1
      · left; simp [h1]
      · right; exact h1
  · intro x hx
    rcases k.blk x hx with h1 | h1
    · exact h.blk x h1
    · right; omega

/-- a field's store behind an append: the sink anew -/
theorem Snk.put {w w1 : World} {s : Nat} {v v1 : Value} {l l1 : List Int} (h : Snk w s v l) (hg : Grew 5 w v l1 v1 w1) (hb : Bytes l1) : Puts w s v l1 v1 (w1.setCell ⟨s, 0, none⟩ v1) := by
  have hs := h.lt
  have hne1 : v1.ownBlock ≠ some s := by
    intro e
    rcases hg.blk with h1 | h1
    · rw [h1] at e; exact h.ne e
    · rw [e] at h1; simp at h1; omega
  have hc : w1.heap[s]? = some (.cells #[v] 83 (0, 0)) := hg.mod.row h.cell (by simpa using h.ne)
  refine ⟨⟨one_setCell hc, ownsRow_setCell_other hg.own (by simpa using hne1) _, hne1, hb⟩, ?_, ?_⟩
  · exact (hg.mod.mono (by intro x hx; left; exact List.mem_cons_of_mem _ hx)).setCell (Or.inl (by simp)) _
  · intro k hk
    rcases hg.blk with h1 | h1
    · left; rw [← h1, hk]
    · right; rw [hk] at h1; simp at h1; omega

theorem Puts.ofMod {w w1 : World} {s : Nat} {v : Value} {l : List Int} (h : Snk w s v l) (hm : Mod [] w w1) : Puts w s v l v w1 :=
  ⟨h.mod hm (by simp) (by simp), hm.mono (by intro x hx; cases hx), fun _ hk => Or.inl hk⟩

theorem newSink_any (w : World) : Calls Tryd.prog 23 #[] w fun e w' => e = .returned (.pointer (some ⟨w.heap.size, 0, none⟩)) ∧ w' = w.alloc (.cells #[.slice none 0 0] 83) := by
  go_enter Tryd.func23, Tryd.ntmps23
  go_wp2
  go_ret
  exact ⟨rfl, rfl⟩
theorem Snk.new (w : World) : Snk (w.alloc (.cells #[.slice none 0 0] 83)) w.heap.size (.slice none 0 0) [] :=
  ⟨heap_alloc_new w _, World.ownsRow_nil _ _ _ _, by simp [Value.ownBlock], Bytes.nil⟩

theorem raw_any (w : World) (s : Nat) (v : Value) (l : List Int) (h : Snk w s v l) (a : Option Addr) (cap n : Nat) (r : List Int) (hr : Cells8 w a r) (hn : n = r.length) (hl : l.length + r.length ≤ 140737488355328) :
    Calls Tryd.prog 26 #[.pointer (some ⟨s, 0, none⟩), .slice a n cap] w fun e w' => e = .returned (.tuple #[]) ∧ ∃ v', Puts w s v (l ++ r) v' w' := by
  have hc := cell_of_one h.cell
  have hsrc : Src Tryd.prog 1 22 (.slice a n cap) n (u8s r) w := Src.of8 hr Tryd.underlying22 n cap hn
  have H := Lib.hid h
  have HR := Lib.hid hr
  clear h hr hn
  go_enter Tryd.func26, Tryd.ntmps26
  go_wp2_with (at_builtin; refine wpList_append8 _ rfl _ _ 22 22 rfl 5 Tryd.underlying22 Tryd.info8 _ l rfl H.out.own _ _ r rfl hsrc hl (l ++ r) rfl ?_)
  intro v1 w1 hg
  have hp := H.out.put hg (H.out.bytes.append HR.out.1)
  have hc1 : w1.heap[s]? = some (.cells #[v] 83 (0, 0)) := hg.mod.row H.out.cell (by simpa using H.out.ne)
  have hcc := cell_of_one hc1
  have hcf := free_of_one hc1
  obtain ⟨a1, n1, cap1, rfl⟩ := hg.shape'
  have HP := Lib.hid hp
  clear hp hg hc1 hsrc hc
  go_wp2
  go_end0
  exact ⟨rfl, _, HP.out⟩

theorem sinkU_any (w : World) (s : Nat) (v : Value) (l : List Int) (h : Snk w s v l) (x k : Int) (h0 : 0 ≤ x) (h1 : x < 18446744073709551616) (hl : l.length ≤ 100000000000) :
    Calls Tryd.prog 25 #[.pointer (some ⟨s, 0, none⟩), .int .u64 x, .int .i64 k] w fun e w' => e = .returned (.bool (holdsB x k)) ∧ ∃ v', Puts w s v (l ++ putL x k) v' w' := by
  have H := Lib.hid h
  clear h
  have hput := put_any x k w h0 h1
  have hpb : Bytes (putL x k) := by unfold putL; split; exact be_bytes _ _; exact Bytes.nil
  have hpl : (putL x k).length ≤ 8 := by
    unfold putL; split
    · rename_i hs
      have := (holds_iff.1 hs).1
      rw [be_length]; omega
    · simp
  generalize putL x k = r at *
  have HPb := Lib.hid hpb
  have HPut := Lib.hid hput
  clear hput hpb
  go_enter Tryd.func25, Tryd.ntmps25
  go_wp2_with (first
    | (go_at_call 43; refine HPut.out.mono ?_; rintro e w1 ⟨a, cap, rfl, hown, hbl⟩; have HO := Lib.hid hown; have HB := Lib.hid (Puts.ofMod H.out (Mod.ofBelow hbl)); clear hown hbl; have hc := cell_of_one HB.out.snk.cell)
    | (at_builtin; refine wpList_append8 _ rfl _ _ 22 22 rfl 5 Tryd.underlying22 Tryd.info8 _ l rfl HB.out.snk.own _ _ r rfl (Src.of8 (Cells8.ofOwns HPb.out HO.out) Tryd.underlying22 _ _ rfl) (by omega) (l ++ r) rfl ?_))
  intro v1 w2 hg
  have hp := HB.out.trans (HB.out.snk.put hg (H.out.bytes.append HPb.out))
  have hc1 : w2.heap[s]? = some (.cells #[v] 83 (0, 0)) := hg.mod.row HB.out.snk.cell (by simpa using H.out.ne)
  have hcc := cell_of_one hc1
  have hcf := free_of_one hc1
  obtain ⟨a1, n1, cap1, rfl⟩ := hg.shape'
  have HP := Lib.hid hp
  clear hp hg hc1 hc
  go_wp2
  go_ret
  exact ⟨rfl, _, HP.out⟩

def sinkIL (x k : Int) : List Int := if fitsB x k then be (unsV x k) k.toNat else []
theorem fits_iff {x k : Int} : fitsB x k = true ↔ (1 ≤ k ∧ k ≤ 8) ∧ (-(256 ^ k.toNat / 2) ≤ x ∧ x < 256 ^ k.toNat / 2) := by simp [fitsB, sizedB]
theorem uns_facts {x k : Int} (h : fitsB x k = true) : 0 ≤ unsV x k ∧ unsV x k < 18446744073709551616 ∧ holdsB (unsV x k) k = true ∧ signedV (unsV x k) k = x := by
  obtain ⟨⟨ha, hb⟩, h1, h2⟩ := fits_iff.1 h
  have hh : ∀ y, holdsB y k = decide (y < 256 ^ k.toNat) := fun y => by simp [holdsB, sizedB, ha, hb]
  rw [hh]
  unfold unsV signedV
  rcases eight ha hb with rfl | rfl | rfl | rfl | rfl | rfl | rfl | rfl <;> simp at * <;> (split <;> (try split)) <;> omega
theorem uns_shift {x k : Int} (h : fitsB x k = true) (hl : -9223372036854775808 ≤ x) (hu : x ≤ 9223372036854775807) :
    IntKind.u64.wrap (IntKind.u64.wrap x * 2 ^ (64 - 8 * k).toNat) / 2 ^ (64 - 8 * k).toNat = unsV x k := by
  obtain ⟨⟨ha, hb⟩, h1, h2⟩ := fits_iff.1 h
  unfold unsV
  rcases eight ha hb with rfl | rfl | rfl | rfl | rfl | rfl | rfl | rfl <;> simp [IntKind.wrap_u64] at * <;> split <;> omega

theorem clone_any (w : World) (a : Option Addr) (cap n : Nat) (l : List Int) (h : Cells8 w a l) (hn : n = l.length) (hl : l.length ≤ 140737488355328) :
    Calls Tryd.prog 44 #[.slice a n cap] w fun e w' => ∃ a' cap', e = .returned (.slice a' l.length cap') ∧ w'.ownsRow w.heap.size 5 1 (.slice a' l.length cap') l.length (u8s l) ∧ Below w.heap.size w w' := by
  have qT : ∀ (w : World) (a : Option Addr) (n c n' c' : Nat), (binOp .eql 22 (.slice a n c) (.slice none n' c')).run Tryd.prog w = .ok (.bool a.isNone) w := fun w a n c n' c' => Lib.run_eql_slice_nil w _ _ a n c n' c' Tryd.underlying22
  have H := Lib.hid h
  subst hn
  cases a with
  | none =>
    have hl0 : l = [] := by
      rcases h.2 with h1 | ⟨b, o, h1, _⟩
      · exact h1
      · cases h1
    subst hl0
    clear h
    go_enter Tryd.func44, Tryd.ntmps44
    go_wp2
    go_ret
    exact ⟨none, 0, rfl, World.ownsRow_nil _ _ _ _, Below.refl _ _⟩
  | some x =>
    clear h
    go_enter Tryd.func44, Tryd.ntmps44
    go_wp2_with (at_builtin; refine wpList_append8 _ rfl _ _ 22 22 rfl 5 Tryd.underlying22 Tryd.info8 _ [] rfl (World.ownsRow_lit w #[] 0 (Nat.zero_le _) (Nat.zero_le _) rfl) _ _ l rfl (Src.of8 (H.out.mod ((Mod.refl [] w).alloc _) (by simp)) Tryd.underlying22 _ _ rfl) (by simp; omega) l rfl ?_)
    intro v1 w1 hg
    obtain ⟨a1, cap1, rfl⟩ := hg.shape
    obtain ⟨h1, h2⟩ := hg.since (B := w.heap.size) (by simp) (by intro k hk; simp [Value.ownBlock] at hk; omega)
    have h3 := ((Below.refl w.heap.size w).alloc (Nat.le_refl _) _).trans h2
    clear hg h2
    go_wp2
    go_ret
    exact ⟨a1, cap1, rfl, h1, h3⟩

theorem sinkBytes_any (w : World) (s : Nat) (v : Value) (l : List Int) (h : Snk w s v l) (hl : l.length ≤ 140737488355328) :
    Calls Tryd.prog 27 #[.pointer (some ⟨s, 0, none⟩)] w fun e w' => ∃ a cap, e = .returned (.slice a l.length cap) ∧ w'.ownsRow w.heap.size 5 1 (.slice a l.length cap) l.length (u8s l) ∧ Below w.heap.size w w' := by
  obtain ⟨a, cap, rfl⟩ := h.shape
  have hc := cell_of_one h.cell
  have hcl := clone_any w a cap _ l (Cells8.ofOwns h.bytes h.own) rfl hl
  have HC := Lib.hid hcl
  clear hcl h
  go_enter Tryd.func27, Tryd.ntmps27
  go_wp2_with (go_at_call 44; refine HC.out.mono ?_; rintro e w1 ⟨a1, cap1, rfl, h1, h2⟩; have H1 := Lib.hid h1; have H2 := Lib.hid h2; clear h1 h2)
  go_ret
  exact ⟨a1, cap1, rfl, H1.out, H2.out⟩
end Go.Proofs.YtondgejbmoiggaaDoor
