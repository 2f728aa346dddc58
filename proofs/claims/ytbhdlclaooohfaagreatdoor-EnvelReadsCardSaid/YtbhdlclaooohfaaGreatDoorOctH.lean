import Derived.Test.YtbhdlclaooohfaaGreatDoorOctE
import Derived.Lib.SliceRun
/- Contracts of a sink: NewSink, U, I, Text, Raw, Len, Bytes; slices.Clone of bytes. -/
namespace Go.Proofs.YtbhdlclaooohfaaGreatDoor
open Go.ChangeShapes Go.WideShapes Go.ChangeAt Go.RowKit
set_option linter.unusedVariables false
set_option linter.unusedSimpArgs false

/-- the sink at block s has the bytes l; v is its slice -/
structure Snk (w : World) (s : Nat) (v : Value) (l : List Int) : Prop where
  cell : w.heap[s]? = some (.cells #[v] 113 (0, 0))
  own : w.ownsRow 0 5 1 v l.length (u8s l)
  ne : v.ownBlock ≠ some s
  bytes : Bytes l

/-- behind a call that puts: the sink has l', in the elder row or in new memory -/
structure Puts (w : World) (s : Nat) (v : Value) (l' : List Int) (v' : Value) (w' : World) : Prop where
  snk : Snk w' s v' l'
  mod : Mod (s :: v.ownBlock.toList) w w'
  blk : ∀ k, v'.ownBlock = some k → v.ownBlock = some k ∨ w.heap.size ≤ k

theorem Snk.lt {w : World} {s : Nat} {v : Value} {l : List Int} (h : Snk w s v l) : s < w.heap.size := (Array.getElem?_eq_some_iff.1 h.cell).1
theorem Snk.mod {F : List Nat} {w w' : World} {s : Nat} {v : Value} {l : List Int} (h : Snk w s v l) (hm : Mod F w w') (hs : s ∉ F) (hv : ∀ k, v.ownBlock = some k → k ∉ F) : Snk w' s v l :=
  ⟨hm.row h.cell hs, hm.owns h.own hv, h.ne, h.bytes⟩
theorem Snk.shape {w : World} {s : Nat} {v : Value} {l : List Int} (h : Snk w s v l) : ∃ a cap, v = .slice a l.length cap := by
  obtain ⟨a, cap, h, _⟩ := owns_shape h.own
  exact ⟨a, cap, h⟩
theorem Puts.refl {w : World} {s : Nat} {v : Value} {l : List Int} (h : Snk w s v l) : Puts w s v l v w := ⟨h, Mod.refl _ _, fun _ hk => Or.inl hk⟩
theorem Puts.trans {w w1 w2 : World} {s : Nat} {v v1 v2 : Value} {l1 l2 : List Int} (h : Puts w s v l1 v1 w1) (k : Puts w1 s v1 l2 v2 w2) : Puts w s v l2 v2 w2 := by
  have hsz := h.mod.size
  refine ⟨k.snk, h.mod.trans' k.mod ?_, ?_⟩
  · intro x hx
    simp only [List.mem_cons, Option.mem_toList] at hx
    rcases hx with rfl | hx
    · left; simp
    · rcases h.blk x hx with h1 | h1
      · left; simp [h1]
      · right; exact h1
  · intro x hx
    rcases k.blk x hx with h1 | h1
    · exact h.blk x h1
    · right; omega

/-- a field's store behind an append: the sink anew -/
theorem Snk.put {w w1 : World} {s : Nat} {v v1 : Value} {l l1 : List Int} (h : Snk w s v l) (hg : Grew 5 w v l1 v1 w1) (hb : Bytes l1) : Puts w s v l1 v1 (w1.setCell ⟨s, 0, none⟩ v1) := by
  have hs := h.lt
  have hne1 : v1.ownBlock ≠ some s := by
    intro e
    rcases hg.blk with h1 | h1
    · rw [h1] at e; exact h.ne e
    · rw [e] at h1; simp at h1; omega
  have hc : w1.heap[s]? = some (.cells #[v] 113 (0, 0)) := hg.mod.row h.cell (by simpa using h.ne)
  refine ⟨⟨one_setCell hc, ownsRow_setCell_other hg.own (by simpa using hne1) _, hne1, hb⟩, ?_, ?_⟩
  · exact (hg.mod.mono (by intro x hx; left; exact List.mem_cons_of_mem _ hx)).setCell (Or.inl (by simp)) _
  · intro k hk
    rcases hg.blk with h1 | h1
    · left; rw [← h1, hk]
    · right; rw [hk] at h1; simp at h1; omega

theorem Puts.ofMod {w w1 : World} {s : Nat} {v : Value} {l : List Int} (h : Snk w s v l) (hm : Mod [] w w1) : Puts w s v l v w1 :=
  ⟨h.mod hm (by simp) (by simp), hm.mono (by intro x hx; cases hx), fun _ hk => Or.inl hk⟩

theorem newSink_any (w : World) : Calls Tryz.prog 48 #[] w fun e w' => e = .returned (.pointer (some ⟨w.heap.size, 0, none⟩)) ∧ w' = w.alloc (.cells #[.slice none 0 0] 113) := by
  go_enter Tryz.func48, Tryz.ntmps48
  go_wp2
  go_ret
  exact ⟨rfl, rfl⟩
theorem Snk.new (w : World) : Snk (w.alloc (.cells #[.slice none 0 0] 113)) w.heap.size (.slice none 0 0) [] :=
  ⟨heap_alloc_new w _, World.ownsRow_nil _ _ _ _, by simp [Value.ownBlock], Bytes.nil⟩

theorem raw_any (w : World) (s : Nat) (v : Value) (l : List Int) (h : Snk w s v l) (a : Option Addr) (cap n : Nat) (r : List Int) (hr : Cells8 w a r) (hn : n = r.length) (hl : l.length + r.length ≤ 140737488355328) :
    Calls Tryz.prog 66 #[.pointer (some ⟨s, 0, none⟩), .slice a n cap] w fun e w' => e = .returned (.tuple #[]) ∧ ∃ v', Puts w s v (l ++ r) v' w' := by
  have hc := cell_of_one h.cell
  have hsrc : Src Tryz.prog 1 22 (.slice a n cap) n (u8s r) w := Src.of8 hr Tryz.underlying22 n cap hn
  have H := Lib.hid h
  have HR := Lib.hid hr
  clear h hr hn
  go_enter Tryz.func66, Tryz.ntmps66
  go_wp2_with (at_builtin; refine wpList_append8 _ rfl _ _ 22 22 rfl 5 Tryz.underlying22 Tryz.info8 _ l rfl H.out.own _ _ r rfl hsrc hl (l ++ r) rfl ?_)
  intro v1 w1 hg
  have hp := H.out.put hg (H.out.bytes.append HR.out.1)
  have hc1 : w1.heap[s]? = some (.cells #[v] 113 (0, 0)) := hg.mod.row H.out.cell (by simpa using H.out.ne)
  have hcc := cell_of_one hc1
  have hcf := free_of_one hc1
  obtain ⟨a1, n1, cap1, rfl⟩ := hg.shape'
  have HP := Lib.hid hp
  clear hp hg hc1 hsrc hc
  go_wp2
  go_end0
  exact ⟨rfl, _, HP.out⟩

theorem sinkU_any (w : World) (s : Nat) (v : Value) (l : List Int) (h : Snk w s v l) (x k : Int) (h0 : 0 ≤ x) (h1 : x < 18446744073709551616) (hl : l.length ≤ 100000000000) :
    Calls Tryz.prog 49 #[.pointer (some ⟨s, 0, none⟩), .int .u64 x, .int .i64 k] w fun e w' => e = .returned (.bool (holdsB x k)) ∧ ∃ v', Puts w s v (l ++ putL x k) v' w' := by
  have H := Lib.hid h
  clear h
  have hput := put_any x k w h0 h1
  have hpb : Bytes (putL x k) := by unfold putL; split; exact be_bytes _ _; exact Bytes.nil
  have hpl : (putL x k).length ≤ 8 := by
    unfold putL; split
    · rename_i hs
      have := (holds_iff.1 hs).1
      rw [be_length]; omega
    · simp
  generalize putL x k = r at *
  have HPb := Lib.hid hpb
  have HPut := Lib.hid hput
  clear hput hpb
  go_enter Tryz.func49, Tryz.ntmps49
  go_wp2_with (first
    | (go_at_call 68; refine HPut.out.mono ?_; rintro e w1 ⟨a, cap, rfl, hown, hbl⟩; have HO := Lib.hid hown; have HB := Lib.hid (Puts.ofMod H.out (Mod.ofBelow hbl)); clear hown hbl; have hc := cell_of_one HB.out.snk.cell)
    | (at_builtin; refine wpList_append8 _ rfl _ _ 22 22 rfl 5 Tryz.underlying22 Tryz.info8 _ l rfl HB.out.snk.own _ _ r rfl (Src.of8 (Cells8.ofOwns HPb.out HO.out) Tryz.underlying22 _ _ rfl) (by omega) (l ++ r) rfl ?_))
  intro v1 w2 hg
  have hp := HB.out.trans (HB.out.snk.put hg (H.out.bytes.append HPb.out))
  have hc1 : w2.heap[s]? = some (.cells #[v] 113 (0, 0)) := hg.mod.row HB.out.snk.cell (by simpa using H.out.ne)
  have hcc := cell_of_one hc1
  have hcf := free_of_one hc1
  obtain ⟨a1, n1, cap1, rfl⟩ := hg.shape'
  have HP := Lib.hid hp
  clear hp hg hc1 hc
  go_wp2
  go_ret
  exact ⟨rfl, _, HP.out⟩

def sinkIL (x k : Int) : List Int := if fitsB x k then be (unsV x k) k.toNat else []
theorem fits_iff {x k : Int} : fitsB x k = true ↔ (1 ≤ k ∧ k ≤ 8) ∧ (-(256 ^ k.toNat / 2) ≤ x ∧ x < 256 ^ k.toNat / 2) := by simp [fitsB, sizedB]
theorem uns_facts {x k : Int} (h : fitsB x k = true) : 0 ≤ unsV x k ∧ unsV x k < 18446744073709551616 ∧ holdsB (unsV x k) k = true ∧ signedV (unsV x k) k = x := by
  obtain ⟨⟨ha, hb⟩, h1, h2⟩ := fits_iff.1 h
  have hh : ∀ y, holdsB y k = decide (y < 256 ^ k.toNat) := fun y => by simp [holdsB, sizedB, ha, hb]
  rw [hh]
  unfold unsV signedV
  rcases eight ha hb with rfl | rfl | rfl | rfl | rfl | rfl | rfl | rfl <;> simp at * <;> (split <;> (try split)) <;> omega
theorem uns_shift {x k : Int} (h : fitsB x k = true) (hl : -9223372036854775808 ≤ x) (hu : x ≤ 9223372036854775807) :
    IntKind.u64.wrap (IntKind.u64.wrap x * 2 ^ (64 - 8 * k).toNat) / 2 ^ (64 - 8 * k).toNat = unsV x k := by
  obtain ⟨⟨ha, hb⟩, h1, h2⟩ := fits_iff.1 h
  unfold unsV
  rcases eight ha hb with rfl | rfl | rfl | rfl | rfl | rfl | rfl | rfl <;> simp [IntKind.wrap_u64] at * <;> split <;> omega

theorem sinkText_any (w : World) (s : Nat) (v : Value) (l : List Int) (h : Snk w s v l) (t : ByteArray) (ht : t.size ≤ 1000000) (hl : l.length ≤ 10000000000) :
    Calls Tryz.prog 69 #[.pointer (some ⟨s, 0, none⟩), .string t] w fun e w' => e = .returned (.tuple #[]) ∧ ∃ v', Puts w s v (l ++ textL t) v' w' := by
  have hU := sinkU_any w s v l h (t.size : Int) 4 (by omega) (by omega) (by omega)
  rw [size_put _ (by omega)] at hU
  have HU := Lib.hid hU
  clear hU h
  go_enter Tryz.func69, Tryz.ntmps69
  go_wp2_with (first
    | (go_at_call 49; refine HU.out.mono ?_; rintro e w1 ⟨rfl, v1, hp⟩; have HP := Lib.hid hp; clear hp; have hc := cell_of_one HP.out.snk.cell)
    | (at_builtin; refine wpList_append8 _ rfl _ _ 22 9 rfl 5 Tryz.underlying22 Tryz.info8 _ (l ++ be t.size 4) rfl HP.out.snk.own _ _ (nums t) rfl (by rw [← byteCells_eq]; exact Src.ofString _ Tryz.underlying9 t) (by rw [List.length_append, be_length, nums_length]; omega) (l ++ textL t) (by simp [textL]) ?_))
  intro v2 w2 hg
  have hp := HP.out.trans (HP.out.snk.put hg ((by have := HP.out.snk.bytes; intro x hx; exact this x (List.mem_append_left _ hx) : Bytes l).append (textL_bytes t)))
  have hc1 : w2.heap[s]? = some (.cells #[v1] 113 (0, 0)) := hg.mod.row HP.out.snk.cell (by simpa using HP.out.snk.ne)
  have hcc := cell_of_one hc1
  have hcf := free_of_one hc1
  obtain ⟨a1, n1, cap1, rfl⟩ := hg.shape'
  have HQ := Lib.hid hp
  clear hp hg hc1 hc
  go_wp2
  go_end0
  exact ⟨rfl, _, HQ.out⟩

theorem clone_any (w : World) (a : Option Addr) (cap n : Nat) (l : List Int) (h : Cells8 w a l) (hn : n = l.length) (hl : l.length ≤ 140737488355328) :
    Calls Tryz.prog 56 #[.slice a n cap] w fun e w' => ∃ a' cap', e = .returned (.slice a' l.length cap') ∧ w'.ownsRow w.heap.size 5 1 (.slice a' l.length cap') l.length (u8s l) ∧ Below w.heap.size w w' := by
  have qT : ∀ (w : World) (a : Option Addr) (n c n' c' : Nat), (binOp .eql 22 (.slice a n c) (.slice none n' c')).run Tryz.prog w = .ok (.bool a.isNone) w := fun w a n c n' c' => Lib.run_eql_slice_nil w _ _ a n c n' c' Tryz.underlying22
  have H := Lib.hid h
  subst hn
  cases a with
  | none =>
    have hl0 : l = [] := by
      rcases h.2 with h1 | ⟨b, o, h1, _⟩
      · exact h1
      · cases h1
    subst hl0
    clear h
    go_enter Tryz.func56, Tryz.ntmps56
    go_wp2
    go_ret
    exact ⟨none, 0, rfl, World.ownsRow_nil _ _ _ _, Below.refl _ _⟩
  | some x =>
    clear h
    go_enter Tryz.func56, Tryz.ntmps56
    go_wp2_with (at_builtin; refine wpList_append8 _ rfl _ _ 22 22 rfl 5 Tryz.underlying22 Tryz.info8 _ [] rfl (World.ownsRow_lit w #[] 0 (Nat.zero_le _) (Nat.zero_le _) rfl) _ _ l rfl (Src.of8 (H.out.mod ((Mod.refl [] w).alloc _) (by simp)) Tryz.underlying22 _ _ rfl) (by simp; omega) l rfl ?_)
    intro v1 w1 hg
    obtain ⟨a1, cap1, rfl⟩ := hg.shape
    obtain ⟨h1, h2⟩ := hg.since (B := w.heap.size) (by simp) (by intro k hk; simp [Value.ownBlock] at hk; omega)
    have h3 := ((Below.refl w.heap.size w).alloc (Nat.le_refl _) _).trans h2
    clear hg h2
    go_wp2
    go_ret
    exact ⟨a1, cap1, rfl, h1, h3⟩

theorem sinkBytes_any (w : World) (s : Nat) (v : Value) (l : List Int) (h : Snk w s v l) (hl : l.length ≤ 140737488355328) :
    Calls Tryz.prog 51 #[.pointer (some ⟨s, 0, none⟩)] w fun e w' => ∃ a cap, e = .returned (.slice a l.length cap) ∧ w'.ownsRow w.heap.size 5 1 (.slice a l.length cap) l.length (u8s l) ∧ Below w.heap.size w w' := by
  obtain ⟨a, cap, rfl⟩ := h.shape
  have hc := cell_of_one h.cell
  have hcl := clone_any w a cap _ l (Cells8.ofOwns h.bytes h.own) rfl hl
  have HC := Lib.hid hcl
  clear hcl h
  go_enter Tryz.func51, Tryz.ntmps51
  go_wp2_with (go_at_call 56; refine HC.out.mono ?_; rintro e w1 ⟨a1, cap1, rfl, h1, h2⟩; have H1 := Lib.hid h1; have H2 := Lib.hid h2; clear h1 h2)
  go_ret
  exact ⟨a1, cap1, rfl, H1.out, H2.out⟩
end Go.Proofs.YtbhdlclaooohfaaGreatDoor

/- Contracts of a source: NewSource, fail, take, U, I, Text, Raw, Left, Err, Done. -/
namespace Go.Proofs.YtbhdlclaooohfaaGreatDoor
open Go.ChangeShapes Go.WideShapes Go.ChangeAt Go.RowKit
set_option linter.unusedVariables false
set_option linter.unusedSimpArgs false

/-- the source at block s has the bytes l left, which stand in block g, and the error e -/
structure Srce (w : World) (s g : Nat) (l : List Int) (e : Int) : Prop where
  ex : ∃ a cap, w.heap[s]? = some (.cells #[.slice a l.length cap, .int .i64 e] 99 (0, 0)) ∧ Cells8 w a l ∧ (∀ x, a = some x → x.block = g) ∧ l.length ≤ cap ∧ cap ≤ maxLen
  ne : g ≠ s

theorem Srce.lt {w : World} {s g : Nat} {l : List Int} {e : Int} (h : Srce w s g l e) : s < w.heap.size := by
  obtain ⟨a, cap, hc, _⟩ := h.ex
  exact (Array.getElem?_eq_some_iff.1 hc).1
theorem Srce.mod {F : List Nat} {w w' : World} {s g : Nat} {l : List Int} {e : Int} (h : Srce w s g l e) (hm : Mod F w w') (hs : s ∉ F) (hg : g ∉ F) : Srce w' s g l e := by
  obtain ⟨a, cap, hc, h8, hb, h1, h2⟩ := h.ex
  exact ⟨⟨a, cap, hm.row hc hs, h8.mod hm (fun x hx => by rw [hb x hx]; exact hg), hb, h1, h2⟩, h.ne⟩

theorem two_cell0 {w : World} {b : Nat} {v u : Value} {t : TypeId} (h : w.heap[b]? = some (.cells #[v, u] t (0, 0))) : w.cell? ⟨b, 0, none⟩ = some v := by simp [World.cell?, h]
theorem two_cell1 {w : World} {b : Nat} {v u : Value} {t : TypeId} (h : w.heap[b]? = some (.cells #[v, u] t (0, 0))) : w.cell? ⟨b, 1, none⟩ = some u := by simp [World.cell?, h]
theorem two_free {w : World} {b o : Nat} {v u : Value} {t : TypeId} (h : w.heap[b]? = some (.cells #[v, u] t (0, 0))) : w.frozen? ⟨b, o, none⟩ = false := by simp [World.frozen?, h]
theorem two_set0 {w : World} {b : Nat} {v u x : Value} {t : TypeId} (h : w.heap[b]? = some (.cells #[v, u] t (0, 0))) : (w.setCell ⟨b, 0, none⟩ x).heap[b]? = some (.cells #[x, u] t (0, 0)) := by
  have h2 := heap_setCell_same w b 0 #[v, u] t x h
  simpa using h2
theorem two_set1 {w : World} {b : Nat} {v u x : Value} {t : TypeId} (h : w.heap[b]? = some (.cells #[v, u] t (0, 0))) : (w.setCell ⟨b, 1, none⟩ x).heap[b]? = some (.cells #[v, x] t (0, 0)) := by
  have h2 := heap_setCell_same w b 1 #[v, u] t x h
  simpa using h2

theorem Mod.set (w : World) (s o : Nat) (x : Value) : Mod [s] w (w.setCell ⟨s, o, none⟩ x) := (Mod.refl [s] w).setCell (Or.inl (by simp)) _

theorem Srce.setErr {w : World} {s g : Nat} {l : List Int} {e : Int} (h : Srce w s g l e) (x : Int) : Srce (w.setCell ⟨s, 1, none⟩ (.int .i64 x)) s g l x := by
  obtain ⟨a, cap, hc, h8, hb, h1, h2⟩ := h.ex
  exact ⟨⟨a, cap, two_set1 hc, h8.mod (Mod.set w s 1 _) (fun y hy => by rw [hb y hy]; simpa using h.ne), hb, h1, h2⟩, h.ne⟩

theorem newSource_any (w : World) (a : Option Addr) (cap n : Nat) (l : List Int) (h : Cells8 w a l) (hn : n = l.length) (hl : l.length ≤ 140737488355328) :
    Calls Tryz.prog 35 #[.slice a n cap] w fun e w' => ∃ s g, e = .returned (.pointer (some ⟨s, 0, none⟩)) ∧ Srce w' s g l 0 ∧ w.heap.size ≤ s ∧ w.heap.size ≤ g ∧ Mod [] w w' := by
  have hcl := clone_any w a cap _ l h hn hl
  have HC := Lib.hid hcl
  have hb := h.1
  have HB := Lib.hid hb
  clear hcl h hn hb
  go_enter Tryz.func35, Tryz.ntmps35
  go_wp2_with (go_at_call 56; refine HC.out.mono ?_; rintro e w1 ⟨a1, cap1, rfl, h1, h2⟩; have H1 := Lib.hid h1; have H2 := Lib.hid h2; clear h1 h2)
  go_ret
  have hm := Mod.ofBelow H2.out
  have hsz := hm.size
  obtain ⟨_, _, hv, _, hcm⟩ := owns_shape H1.out
  have hcap : l.length ≤ cap1 ∧ cap1 ≤ maxLen := by
    rcases H1.out.2 with ⟨h3, h4⟩ | ⟨g, c, cur, h3, _, _, h5, h6, _⟩
    · simp at h3; omega
    · simp at h3; omega
  have h8 := (Cells8.ofOwns HB.out H1.out).mod ((Mod.refl [] w1).alloc (.cells #[.slice a1 l.length cap1, .int .i64 0] 99)) (by simp)
  cases a1 with
  | none => exact ⟨w1.heap.size, w1.heap.size + 1, rfl, ⟨⟨none, cap1, heap_alloc_new w1 _, h8, by simp, hcap.1, hcap.2⟩, by omega⟩, by omega, by omega, hm.alloc _⟩
  | some x =>
    have hx := H1.out.lt x.block rfl
    exact ⟨w1.heap.size, x.block, rfl, ⟨⟨some x, cap1, heap_alloc_new w1 _, h8, by simp, hcap.1, hcap.2⟩, by omega⟩, by omega, hx.1, hm.alloc _⟩

def doneE (l : List Int) (e : Int) : Int := if e = 0 ∧ 0 < l.length then 3 else e
theorem done_any (w : World) (s g : Nat) (l : List Int) (er : Int) (h : Srce w s g l er) :
    Calls Tryz.prog 38 #[.pointer (some ⟨s, 0, none⟩)] w fun e w' => e = .returned (.int .i64 (doneE l er)) ∧ w = w' := by
  obtain ⟨a, cap, hc, _⟩ := h.ex
  have hc0 := two_cell0 hc
  have hc1 := two_cell1 hc
  clear hc h
  by_cases h1 : er = 0
  · subst h1
    by_cases h2 : 0 < l.length
    · have hd : doneE l 0 = 3 := if_pos ⟨rfl, h2⟩
      have h2' : (0 : Int) < l.length := by omega
      go_enter Tryz.func38, Tryz.ntmps38
      go_wp2
      go_ret
      exact ⟨ret_int (by simp [hd]), rfl⟩
    · have hd : doneE l 0 = 0 := if_neg (fun h => h2 h.2)
      have h2' : ¬ (0 : Int) < l.length := by omega
      go_enter Tryz.func38, Tryz.ntmps38
      go_wp2
      go_ret
      exact ⟨ret_int (by simp [hd]), rfl⟩
  · have hd : doneE l er = er := by simp [doneE, h1]
    have h1' : (er == 0) = false := by simpa using h1
    go_enter Tryz.func38, Tryz.ntmps38
    go_wp2
    go_ret
    exact ⟨ret_int (by simp [hd]), rfl⟩

def failE (e x : Int) : Int := if e = 0 then x else e
theorem fail_any (w : World) (s g : Nat) (l : List Int) (er x : Int) (h : Srce w s g l er) :
    Calls Tryz.prog 58 #[.pointer (some ⟨s, 0, none⟩), .int .i64 x] w fun e w' => e = .returned (.tuple #[]) ∧ Srce w' s g l (failE er x) ∧ Mod [s] w w' := by
  have h' := h
  obtain ⟨a, cap, hc, _⟩ := h.ex
  have hc1 := two_cell1 hc
  have hf : w.frozen? ⟨s, 1, none⟩ = false := two_free hc
  have H := Lib.hid h'
  clear hc h h'
  by_cases h1 : er = 0
  · subst h1
    have hd : failE 0 x = x := by simp [failE]
    go_enter Tryz.func58, Tryz.ntmps58
    go_wp2
    go_end0
    rw [hd]
    exact ⟨rfl, H.out.setErr x, Mod.set _ _ _ _⟩
  · have hd : failE er x = er := by simp [failE, h1]
    have h1' : (er == 0) = false := by simpa using h1
    go_enter Tryz.func58, Tryz.ntmps58
    go_wp2
    go_end0
    rw [hd]
    exact ⟨rfl, H.out, Mod.refl _ _⟩

def takeE (l : List Int) (e n : Int) : Int := if e ≠ 0 then e else if (l.length : Int) < n then 2 else 0
def takeR (l : List Int) (e n : Int) : List Int := if takeE l e n = 0 then l.take n.toNat else []
def takeL (l : List Int) (e n : Int) : List Int := if takeE l e n = 0 then l.drop n.toNat else l

/-- a slice of what the source has, and the source behind it -/
def Took (w : World) (s g : Nat) (l : List Int) (er n : Int) (e : Ending) (w' : World) : Prop :=
  ∃ a cap, e = .returned (.slice a (takeR l er n).length cap) ∧ Cells8 w' a (takeR l er n) ∧ (takeR l er n).length ≤ cap ∧ (∀ x, a = some x → x.block = g) ∧ Srce w' s g (takeL l er n) (takeE l er n) ∧ Mod [s] w w'

theorem took_of {w : World} {s g : Nat} {l : List Int} {a : Option Addr} {cap m : Nat} (hc : w.heap[s]? = some (.cells #[.slice a l.length cap, .int .i64 0] 99 (0, 0))) (h8 : Cells8 w a l)
    (hk : ∀ x, a = some x → x.block = g) (hne : g ≠ s) (hl1 : l.length ≤ cap) (hl2 : cap ≤ maxLen) (hm : m ≤ l.length) (a2 : Option Addr) (h2 : (cap = m ∧ a2 = a) ∨ (¬ cap = m ∧ a2 = a.map (·.add m))) :
    Took w s g l 0 m (.returned (.slice a m cap)) (w.setCell ⟨s, 0, none⟩ (.slice a2 (l.length - m) (cap - m))) := by
  have hlt : ¬ (l.length : Int) < m := by omega
  have e0 : takeE l 0 m = 0 := by simp [takeE]; omega
  have e1 : takeR l 0 m = l.take m := by simp [takeR, e0]
  have e2 : takeL l 0 m = l.drop m := by simp [takeL, e0]
  have hlen : (l.take m).length = m := by simp; omega
  have hdl : (l.drop m).length = l.length - m := by simp
  have hset := Mod.set w s 0 (.slice a2 (l.length - m) (cap - m))
  have h8' : Cells8 (w.setCell ⟨s, 0, none⟩ (.slice a2 (l.length - m) (cap - m))) a l := h8.mod hset (fun y hy => by rw [hk y hy]; simpa using hne)
  unfold Took
  rw [e0, e1, e2]
  refine ⟨a, cap, by rw [hlen], h8'.take m, by omega, hk, ⟨⟨a2, cap - m, by rw [hdl]; exact two_set0 hc, ?_, ?_, by omega, by omega⟩, hne⟩, hset⟩
  · rcases h2 with ⟨h3, rfl⟩ | ⟨h3, rfl⟩
    · have : l.drop m = [] := List.drop_eq_nil_of_le (by omega)
      rw [this]; exact Cells8.nil _ _
    · rcases h8'.2 with h4 | ⟨b, o, rfl, _⟩
      · subst h4; simp; exact Cells8.nil _ _
      · simpa [Addr.add_lit] using h8'.drop m
  · rcases h2 with ⟨h3, rfl⟩ | ⟨h3, rfl⟩
    · exact hk
    · intro x hx
      obtain ⟨y, hy, rfl⟩ := Option.map_eq_some_iff.1 hx
      have := hk y hy
      unfold Addr.add
      split <;> simp_all

theorem take_any (w : World) (s g : Nat) (l : List Int) (er n : Int) (h : Srce w s g l er) (hn : er = 0 → 0 ≤ n) :
    Calls Tryz.prog 59 #[.pointer (some ⟨s, 0, none⟩), .int .i64 n] w (Took w s g l er n) := by
  have h' := h
  obtain ⟨a, cap, hc, h8, hbk, hl1, hl2⟩ := h.ex
  have hc0 := two_cell0 hc
  have hc1 := two_cell1 hc
  have hf0 : w.frozen? ⟨s, 0, none⟩ = false := two_free hc
  have H := Lib.hid h'
  have HC := Lib.hid hc
  have H8 := Lib.hid h8
  have HK := Lib.hid hbk
  clear hc h h' h8 hbk
  by_cases he : er = 0
  case neg =>
    have e0 : takeE l er n = er := by simp [takeE, he]
    have e1 : takeR l er n = [] := by simp [takeR, e0, he]
    have e2 : takeL l er n = l := by simp [takeL, e0, he]
    have hfe : failE er 2 = er := by simp [failE, he]
    have h1' : (er == 0) = false := by simpa using he
    have h2' : (er != 0) = true := by simpa using he
    have fin : ∀ w', Srce w' s g l er → Mod [s] w w' → Took w s g l er n (.returned (.slice none 0 0)) w' := fun w' k1 k2 => by
      unfold Took; rw [e0, e1, e2]; exact ⟨none, 0, rfl, Cells8.nil _ _, Nat.le_refl _, by simp, k1, k2⟩
    have Hfin := Lib.hid fin
    have hfl := fail_any w s g l er 2 H.out
    rw [hfe] at hfl
    have Hfl := Lib.hid hfl
    clear e0 e1 e2 hfe fin hfl hn hf0
    by_cases hlt : (l.length : Int) < n
    · go_enter Tryz.func59, Tryz.ntmps59
      go_wp2_with (go_at_call 58; refine Hfl.out.mono ?_; rintro e w1 ⟨rfl, k1, k2⟩; obtain ⟨a1, cap1, hd, _⟩ := k1.ex; have hd1 := two_cell1 hd; have K1 := Lib.hid k1; have K2 := Lib.hid k2; clear k1 k2 hd)
      go_ret
      exact Hfin.out _ K1.out K2.out
    · go_enter Tryz.func59, Tryz.ntmps59
      go_wp2_with fail
      go_ret
      exact Hfin.out _ H.out (Mod.refl _ _)
  subst he
  have hn0 := hn rfl
  clear hn
  by_cases hlt : (l.length : Int) < n
  · have e0 : takeE l 0 n = 2 := by simp [takeE, hlt]
    have e1 : takeR l 0 n = [] := by simp [takeR, e0]
    have e2 : takeL l 0 n = l := by simp [takeL, e0]
    have fin : ∀ w', Srce w' s g l 2 → Mod [s] w w' → Took w s g l 0 n (.returned (.slice none 0 0)) w' := fun w' k1 k2 => by
      unfold Took; rw [e0, e1, e2]; exact ⟨none, 0, rfl, Cells8.nil _ _, Nat.le_refl _, by simp, k1, k2⟩
    have Hfin := Lib.hid fin
    have hfl := fail_any w s g l 0 2 H.out
    have Hfl := Lib.hid hfl
    clear e0 e1 e2 fin hfl hf0
    go_enter Tryz.func59, Tryz.ntmps59
    go_wp2_with (go_at_call 58; refine Hfl.out.mono ?_; rintro e w1 ⟨rfl, k1, k2⟩; have k1' : Srce w1 s g l 2 := k1; obtain ⟨a1, cap1, hd, _⟩ := k1'.ex; have hd1 := two_cell1 hd; have K1 := Lib.hid k1'; have K2 := Lib.hid k2; clear k1 k1' k2 hd)
    go_ret
    exact Hfin.out _ K1.out K2.out
  · obtain ⟨m, rfl⟩ := Int.eq_ofNat_of_zero_le hn0
    have hmc : m ≤ cap := by omega
    have hml : m ≤ l.length := by omega
    by_cases hcm : cap = m
    · have hml2 : l.length = m := by omega
      subst hcm
      go_enter Tryz.func59, Tryz.ntmps59
      go_wp2_with fail
      go_ret
      have t := took_of HC.out H8.out HK.out H.out.ne hl1 hl2 hml a (Or.inl ⟨rfl, rfl⟩)
      rw [show l.length - cap = 0 by omega, Nat.sub_self] at t
      exact t
    · go_enter Tryz.func59, Tryz.ntmps59
      go_wp2_with fail
      go_ret
      exact took_of HC.out H8.out HK.out H.out.ne hl1 hl2 hml _ (Or.inr ⟨hcm, rfl⟩)
end Go.Proofs.YtbhdlclaooohfaaGreatDoor

/- Contracts of a source, on: U, I, Raw, Text. -/
namespace Go.Proofs.YtbhdlclaooohfaaGreatDoor
open Go.ChangeShapes Go.WideShapes Go.ChangeAt Go.RowKit
set_option linter.unusedVariables false
set_option linter.unusedSimpArgs false

def srcUE (l : List Int) (e k : Int) : Int := if e ≠ 0 then e else if sizedB k = false then 1 else if (l.length : Int) < k then 2 else 0
def srcUL (l : List Int) (e k : Int) : List Int := if srcUE l e k = 0 then l.drop k.toNat else l
def srcUV (l : List Int) (e k : Int) : Int := if srcUE l e k = 0 then val (l.take k.toNat) else 0

theorem get_nil (k : Int) : getR [] 0 k = 0 := by
  unfold getR getB getV
  split <;> simp [val]

theorem failE_ne (e x : Int) (h : x ≠ 0) : failE e x ≠ 0 := by unfold failE; split <;> assumption

/-- behind a call that takes -/
structure Takes (w : World) (s g : Nat) (l' : List Int) (e' : Int) (w' : World) : Prop where
  src : Srce w' s g l' e'
  mod : Mod [s] w w'

theorem srcU_any (w : World) (s g : Nat) (l : List Int) (er k : Int) (h : Srce w s g l er) (hl : l.length ≤ 9223372036854775807) :
    Calls Tryz.prog 36 #[.pointer (some ⟨s, 0, none⟩), .int .i64 k] w fun e w' => e = .returned (.int .u64 (srcUV l er k)) ∧ Takes w s g (srcUL l er k) (srcUE l er k) w' := by
  have H := Lib.hid h
  clear h
  by_cases hs : sizedB k = true
  case neg =>
    have hs : sizedB k = false := by simpa using hs
    have hf := fail_any w s g l er 1 H.out
    have hfe : failE er 1 = srcUE l er k := by unfold failE srcUE; by_cases h : er = 0 <;> simp [h, hs]
    have hne : srcUE l er k ≠ 0 := by rw [← hfe]; exact failE_ne _ _ (by decide)
    rw [hfe] at hf
    have t0 : takeE l (srcUE l er k) k = srcUE l er k := by simp [takeE, hne]
    have t1 : takeR l (srcUE l er k) k = [] := by simp [takeR, t0, hne]
    have t2 : takeL l (srcUE l er k) k = l := by simp [takeL, t0, hne]
    have u1 : srcUL l er k = l := by simp [srcUL, hne]
    have u2 : srcUV l er k = 0 := by simp [srcUV, hne]
    have Hn := Lib.hid hne
    have T0 := Lib.hid t0; have T1 := Lib.hid t1; have T2 := Lib.hid t2
    have HF := Lib.hid hf
    have U1 := Lib.hid u1; have U2 := Lib.hid u2
    clear hf hfe hne t0 t1 t2 u1 u2
    generalize srcUE l er k = e1 at *
    go_enter Tryz.func36, Tryz.ntmps36
    go_wp2_with (first
      | (go_at_call 57; refine (sized_any _ _).mono ?_; rintro e w' ⟨rfl, rfl⟩)
      | (go_at_call 58; refine HF.out.mono ?_; rintro e w1 ⟨rfl, k1, k2⟩; have K1 := Lib.hid k1; have K2 := Lib.hid k2; clear k1 k2)
      | (go_at_call 59; refine (take_any _ _ _ _ _ _ K1.out (fun h => absurd h Hn.out)).mono ?_; rintro e w2 ⟨a, cap, rfl, c8, _, _, k3, k4⟩; rw [T1.out] at c8; rw [T2.out, T0.out] at k3; rw [T1.out]; have C8 := Lib.hid c8; have K3 := Lib.hid k3; have K4 := Lib.hid k4; clear c8 k3 k4)
      | (go_at_call 54; refine (get_any _ [] _ _ _ _ C8.out (by simp) _ rfl).mono ?_; rw [get_nil]; rintro e w3 ⟨rfl, rfl⟩))
    go_ret
    exact ⟨ret_int U2.out.symm, by rw [U1.out]; exact K3.out, K2.out.trans K4.out⟩
  obtain ⟨ha, hb⟩ := sized_iff.1 hs
  have t0 : takeE l er k = srcUE l er k := by simp [takeE, srcUE, hs]
  have t2 : takeL l er k = srcUL l er k := by simp [takeL, srcUL, t0]
  have t1 : getR (takeR l er k) 0 k = srcUV l er k := by
    unfold takeR srcUV
    rw [t0]
    by_cases h : srcUE l er k = 0
    · rw [if_pos h, if_pos h]
      have hlk : k ≤ l.length := by
        unfold srcUE at h
        by_cases h2 : er = 0 <;> simp [h2, hs] at h
        exact h
      simp only [getR, getB, getV, hs, Bool.true_and]
      rw [if_pos (by simp; omega)]
      simp [List.take_take]
    · rw [if_neg h, if_neg h, get_nil]
  have ht := take_any w s g l er k H.out (fun _ => by omega)
  unfold Took at ht
  rw [t2, t0] at ht
  have hb : (takeR l er k).length ≤ 9223372036854775807 := by unfold takeR; split <;> simp <;> omega
  generalize takeR l er k = r at *
  have HT := Lib.hid ht
  have T1 := Lib.hid t1
  clear ht t0 t1 t2
  go_enter Tryz.func36, Tryz.ntmps36
  go_wp2_with (first
    | (go_at_call 57; refine (sized_any _ _).mono ?_; rintro e w' ⟨rfl, rfl⟩)
    | (go_at_call 59; refine HT.out.mono ?_; rintro e w2 ⟨a, cap, rfl, c8, _, _, k3, k4⟩; have C8 := Lib.hid c8; have K3 := Lib.hid k3; have K4 := Lib.hid k4; clear c8 k3 k4)
    | (go_at_call 54; refine (get_any _ r _ _ _ _ C8.out (by omega) _ rfl).mono ?_; rw [T1.out]; rintro e w3 ⟨rfl, rfl⟩))
  go_ret
  exact ⟨rfl, K3.out, K4.out⟩

theorem srcUV_bound (l : List Int) (e k : Int) (hb : Bytes l) : 0 ≤ srcUV l e k ∧ srcUV l e k < 18446744073709551616 := by
  unfold srcUV
  split
  · rename_i h
    have h1 := val_bound _ (hb.take k.toNat)
    have hk : k ≤ 8 := by
      unfold srcUE at h
      by_cases h2 : e = 0
      · by_cases h3 : sizedB k = true
        · exact (sized_iff.1 h3).2
        · have h3 : sizedB k = false := by simpa using h3
          simp [h2, h3] at h
      · simp [h2] at h
    have h2 := pow_le8 (n := (l.take k.toNat).length) (by simp; omega)
    omega
  · omega

theorem Srce.bytes {w : World} {s g : Nat} {l : List Int} {e : Int} (h : Srce w s g l e) : Bytes l := by
  obtain ⟨a, cap, _, h8, _⟩ := h.ex
  exact h8.1

def srcRE (l : List Int) (e n : Int) : Int := if e ≠ 0 then e else if n < 0 then 1 else if (l.length : Int) < n then 2 else 0
def srcRL (l : List Int) (e n : Int) : List Int := if srcRE l e n = 0 then l.drop n.toNat else l
def srcRV (l : List Int) (e n : Int) : List Int := if srcRE l e n = 0 then l.take n.toNat else []

/-- new bytes, and the source behind it -/
def TakesNew (w : World) (s g : Nat) (r l' : List Int) (e' : Int) (e : Ending) (w' : World) : Prop :=
  ∃ a cap, e = .returned (.slice a r.length cap) ∧ w'.ownsRow w.heap.size 5 1 (.slice a r.length cap) r.length (u8s r) ∧ Takes w s g l' e' w'

theorem takesNew_of {w w1 w2 : World} {s g : Nat} {r l' : List Int} {e' : Int} {a : Option Addr} {cap : Nat} (h1 : Takes w s g l' e' w1) (h2 : w2.ownsRow w1.heap.size 5 1 (.slice a r.length cap) r.length (u8s r)) (h3 : Below w1.heap.size w1 w2) :
    TakesNew w s g r l' e' (.returned (.slice a r.length cap)) w2 := by
  have hm := Mod.ofBelow h3
  have hsz := h1.mod.size
  exact ⟨a, cap, rfl, owns_rebase h2 (fun k hk => by have := h2.lt k hk; omega), h1.src.mod hm (by simp) (by simp), h1.mod.trans' hm (by simp)⟩

def srcTN (l : List Int) : Int := val (l.take 4)
def srcTE (l : List Int) (e most : Int) : Int := if e ≠ 0 then e else if l.length < 4 then 2 else if most < srcTN l then 4 else if (l.length : Int) < 4 + srcTN l then 2 else 0
def srcTL (l : List Int) (e most : Int) : List Int := if srcTE l e most = 0 then l.drop (4 + (srcTN l).toNat) else l
def srcTV (l : List Int) (e most : Int) : List Int := if srcTE l e most = 0 then (l.drop 4).take (srcTN l).toNat else []

theorem takeE_ne {l : List Int} {e n : Int} (h : e ≠ 0) : takeE l e n = e := by simp [takeE, h]
theorem takeR_ne {l : List Int} {e n : Int} (h : e ≠ 0) : takeR l e n = [] := by simp [takeR, takeE_ne h, h]
theorem takeL_ne {l : List Int} {e n : Int} (h : e ≠ 0) : takeL l e n = l := by simp [takeL, takeE_ne h, h]
theorem srcTN_bound (l : List Int) (hb : Bytes l) : 0 ≤ srcTN l ∧ srcTN l < 4294967296 := by
  have h1 := val_bound _ (hb.take 4)
  have h2 : (256:Int) ^ (l.take 4).length ≤ 4294967296 := by
    have h3 : (l.take 4).length ≤ 4 := by simp; omega
    have : (l.take 4).length = 0 ∨ (l.take 4).length = 1 ∨ (l.take 4).length = 2 ∨ (l.take 4).length = 3 ∨ (l.take 4).length = 4 := by omega
    rcases this with h | h | h | h | h <;> rw [h] <;> decide
  unfold srcTN
  omega

theorem conv_end {w : World} {a : Option Addr} {r t : List Int} {cap : Nat} (hT : Hid (List.drop 4 r = t)) (hrc : r.length ≤ cap) (hcap : cap = 4) (c : Nat) :
    (convert 22 9 (.slice a (r.length - 4) c)).run Tryz.prog w = .ok (.string (strOfNums t)) w := by
  have h : t = [] := by rw [← hT.out]; exact List.drop_eq_nil_of_le (by omega)
  subst h
  exact run_str (Cells8.nil w a) _ _ 5 _ c Tryz.underlying22 Tryz.underlying5 Tryz.underlying9 (by simp; omega)

set_option maxHeartbeats 1000000 in
set_option maxRecDepth 100000 in
theorem srcText_any (w : World) (s g : Nat) (l : List Int) (er most : Int) (h : Srce w s g l er) (hl : l.length ≤ 140737488355328) :
    Calls Tryz.prog 60 #[.pointer (some ⟨s, 0, none⟩), .int .i64 most] w fun e w' => e = .returned (.string (strOfNums (srcTV l er most))) ∧ Takes w s g (srcTL l er most) (srcTE l er most) w' := by
  have hbytes := h.bytes
  obtain ⟨hN0, hN1⟩ := srcTN_bound l hbytes
  obtain ⟨a0, cap0, hc0, h8, _⟩ := h.ex
  have hcell := two_cell0 hc0
  have H := Lib.hid h
  have hget := get_any a0 l cap0 0 4 w h8 (by omega) _ rfl
  have hEr := two_cell1 hc0
  clear h h8 hc0 hbytes
  by_cases h4 : l.length < 4
  · have g1 : getB l 0 4 = false := by simp [getB]; omega
    have g2 : getR l 0 4 = 0 := by simp [getR, g1]
    rw [g1, g2] at hget
    have HG := Lib.hid hget
    have hf := fail_any w s g l er 2 H.out
    have hfe : failE er 2 = srcTE l er most := by unfold failE srcTE; by_cases h : er = 0 <;> simp [h, h4]
    have hne : srcTE l er most ≠ 0 := by rw [← hfe]; exact failE_ne _ _ (by decide)
    rw [hfe] at hf
    have hfe4 : failE (srcTE l er most) 4 = srcTE l er most := by unfold failE; rw [if_neg hne]
    have u1 : srcTL l er most = l := by simp [srcTL, hne]
    have u2 : strOfNums (srcTV l er most) = ByteArray.empty := by simp [srcTV, hne]; rfl
    have Hn := Lib.hid hne
    have HF := Lib.hid hf
    have HF4 := Lib.hid hfe4
    rw [u1, u2]
    have hB1 : (srcTE l er most != 0) = true := by simpa using hne
    clear hf hfe hne hfe4 u1 u2 hget g1 g2 hN0 hN1
    generalize srcTE l er most = e1 at *
    by_cases hm : most < 0
    · go_enter Tryz.func60, Tryz.ntmps60
      go_wp2_with (first
        | (go_at_call 54; (with_reducible refine HG.out.mono ?_); rintro e w3 ⟨rfl, rfl⟩)
        | (go_at_call 58; (with_reducible refine HF.out.mono ?_); rintro e w1 ⟨rfl, k1, k2⟩; have K1 := Lib.hid k1; have K2 := Lib.hid k2; clear k1 k2 hcell hEr)
        | (go_at_call 58; (with_reducible refine (fail_any _ _ _ _ _ _ K1.out).mono ?_); rw [HF4.out]; rintro e w2 ⟨rfl, j1, j2⟩; have J1 := Lib.hid j1; have J2 := Lib.hid (K2.out.trans j2); clear j1 j2)
        | (go_at_call 59; (with_reducible refine (take_any _ _ _ _ _ _ J1.out (fun h => absurd h Hn.out)).mono ?_); rintro e w4 ⟨a, cap, rfl, _, _, _, k3, k4⟩; rw [takeL_ne Hn.out, takeE_ne Hn.out] at k3; obtain ⟨a1, cap1, hd, _⟩ := k3.ex; have hd1 := two_cell1 hd; have K3 := Lib.hid k3; have K4 := Lib.hid (J2.out.trans k4); clear k3 k4 hd))
      go_ret
      exact ⟨rfl, K3.out, K4.out⟩
    · go_enter Tryz.func60, Tryz.ntmps60
      go_wp2_with (first
        | (go_at_call 54; (with_reducible refine HG.out.mono ?_); rintro e w3 ⟨rfl, rfl⟩)
        | (go_at_call 58; (with_reducible refine HF.out.mono ?_); rintro e w1 ⟨rfl, k1, k2⟩; have K1 := Lib.hid k1; have K2 := Lib.hid k2; clear k1 k2 hcell hEr)
        | (go_at_call 59; (with_reducible refine (take_any _ _ _ _ _ _ K1.out (fun h => absurd h Hn.out)).mono ?_); rintro e w4 ⟨a, cap, rfl, _, _, _, k3, k4⟩; rw [takeL_ne Hn.out, takeE_ne Hn.out] at k3; obtain ⟨a1, cap1, hd, _⟩ := k3.ex; have hd1 := two_cell1 hd; have K3 := Lib.hid k3; have K4 := Lib.hid (K2.out.trans k4); clear k3 k4 hd))
      go_ret
      exact ⟨rfl, K3.out, K4.out⟩
  · have g1 : getB l 0 4 = true := by simp [getB, sizedB]; omega
    have g2 : getR l 0 4 = srcTN l := by simp [getR, g1, getV, srcTN]
    rw [g1, g2] at hget
    have HG := Lib.hid hget
    clear hget g1 g2
    by_cases hm : most < srcTN l
    · have hf := fail_any w s g l er 4 H.out
      have hfe : failE er 4 = srcTE l er most := by unfold failE srcTE; by_cases h : er = 0 <;> simp [h, h4, hm]
      have hne : srcTE l er most ≠ 0 := by rw [← hfe]; exact failE_ne _ _ (by decide)
      rw [hfe] at hf
      have u1 : srcTL l er most = l := by simp [srcTL, hne]
      have u2 : strOfNums (srcTV l er most) = ByteArray.empty := by simp [srcTV, hne]; rfl
      have Hn := Lib.hid hne
      have HF := Lib.hid hf
      rw [u1, u2]
      have hB1 : (srcTE l er most != 0) = true := by simpa using hne
      clear hf hfe hne u1 u2
      generalize srcTE l er most = e1 at *
      generalize srcTN l = N at *
      go_enter Tryz.func60, Tryz.ntmps60
      go_wp2_with (first
        | (go_at_call 54; (with_reducible refine HG.out.mono ?_); rintro e w3 ⟨rfl, rfl⟩)
        | (go_at_call 58; (with_reducible refine HF.out.mono ?_); rintro e w1 ⟨rfl, k1, k2⟩; have K1 := Lib.hid k1; have K2 := Lib.hid k2; clear k1 k2 hcell hEr)
        | (go_at_call 59; (with_reducible refine (take_any _ _ _ _ _ _ K1.out (fun h => absurd h Hn.out)).mono ?_); rintro e w4 ⟨a, cap, rfl, _, _, _, k3, k4⟩; rw [takeL_ne Hn.out, takeE_ne Hn.out] at k3; obtain ⟨a1, cap1, hd, _⟩ := k3.ex; have hd1 := two_cell1 hd; have K3 := Lib.hid k3; have K4 := Lib.hid (K2.out.trans k4); clear k3 k4 hd))
      go_ret
      exact ⟨rfl, K3.out, K4.out⟩
    · have t0 : takeE l er (4 + srcTN l) = srcTE l er most := by
        unfold takeE srcTE; rw [if_neg h4, if_neg hm]
      have t2 : takeL l er (4 + srcTN l) = srcTL l er most := by
        unfold takeL srcTL; rw [t0, show (4 + srcTN l).toNat = 4 + (srcTN l).toNat by omega]
      have t1 : (takeR l er (4 + srcTN l)).drop 4 = srcTV l er most := by
        unfold takeR srcTV; rw [t0, show (4 + srcTN l).toNat = 4 + (srcTN l).toNat by omega]
        split
        · rw [List.drop_take, Nat.add_sub_cancel_left]
        · rfl
      have t3 : srcTE l er most = 0 → 4 ≤ (takeR l er (4 + srcTN l)).length := by
        intro h
        unfold takeR
        rw [t0, if_pos h, show (4 + srcTN l).toNat = 4 + (srcTN l).toNat by omega]
        simp; omega
      have u2 : srcTE l er most ≠ 0 → strOfNums (srcTV l er most) = ByteArray.empty := by intro h; simp [srcTV, h]; rfl
      have ht := take_any w s g l er (4 + srcTN l) H.out (fun _ => by omega)
      unfold Took at ht
      rw [t0, t2] at ht
      have HT := Lib.hid ht
      clear ht t0 t2
      have T1 := Lib.hid t1
      have T3 := Lib.hid t3
      have U2 := Lib.hid u2
      clear t1 t3 u2
      generalize srcTE l er most = e1 at *
      generalize takeR l er (4 + srcTN l) = r at *
      generalize srcTV l er most = t at *
      generalize srcTN l = N at *
      by_cases hz : e1 = 0
      · have h4r := T3.out hz
        subst hz
        go_enter Tryz.func60, Tryz.ntmps60
        go_wp2_with (first
          | (go_at_call 54; (with_reducible refine HG.out.mono ?_); rintro e w3 ⟨rfl, rfl⟩)
          | (go_at_call 59; (with_reducible refine HT.out.mono ?_); rintro e w4 ⟨a, cap, rfl, c8, hrc, _, k3, k4⟩; obtain ⟨a1, cap1, hd, _⟩ := k3.ex; have hd1 := two_cell1 hd; have K3 := Lib.hid k3; have K4 := Lib.hid k4; obtain ⟨b, o, rfl, _⟩ := c8.addr (by omega); have F1 := fun c => run_str (c8.drop 4) 22 9 5 (r.length - 4) c Tryz.underlying22 Tryz.underlying5 Tryz.underlying9 (by simp); rw [T1.out] at F1; have F2 := fun (h : cap = 4) c => conv_end (w := w4) (a := some ⟨b, o, none⟩) T1 hrc h c; clear k3 k4 hd c8))
        all_goals go_ret
        all_goals exact ⟨rfl, K3.out, K4.out⟩
      · have hB1 : (e1 != 0) = true := by simpa using hz
        have hv := U2.out hz
        rw [hv]
        clear hv
        go_enter Tryz.func60, Tryz.ntmps60
        go_wp2_with (first
          | (go_at_call 54; (with_reducible refine HG.out.mono ?_); rintro e w3 ⟨rfl, rfl⟩)
          | (go_at_call 59; (with_reducible refine HT.out.mono ?_); rintro e w4 ⟨a, cap, rfl, _, _, _, k3, k4⟩; obtain ⟨a1, cap1, hd, _⟩ := k3.ex; have hd1 := two_cell1 hd; have K3 := Lib.hid k3; have K4 := Lib.hid k4; clear k3 k4 hd))
        go_ret
        exact ⟨rfl, K3.out, K4.out⟩
end Go.Proofs.YtbhdlclaooohfaaGreatDoor

