/- The disk: a file in memory: made, written. -/
import Derived.Test.YtfcoaafmjllpfaaVfB
import Derived.Deep.RegionWith
namespace Go.Proofs.Ytfcoaafmjllpfaa
open Go.Shelf Go.ChangeShapes Go.WideShapes Go.ChangeAt Go.RowKit
set_option linter.unusedVariables false
set_option linter.unusedSimpArgs false

/-- a write in memory: its place, its bytes, where they lie -/
structure WrM where
  k : Nat
  x : List Int
  a : Option Addr
  c : Nat
def wrCells (ws : List WrM) : List Value := ws.flatMap fun m => [.int .i64 m.k, .slice m.a m.x.length m.c]
theorem wrCells_len (ws : List WrM) : (wrCells ws).length = ws.length * 2 := by
  induction ws with
  | nil => rfl
  | cons m ws ih => simp [wrCells] at ih ⊢; omega
def wrReads (ws : List WrM) : List Nat := ws.flatMap fun m => blocks m.a
/-- a file in memory: f at the block fb, over the rows vs (seen), vu (sure), vw (writes) -/
structure FileAt (w : World) (fb : Nat) (f : FileD) (vs vu vw : Value) (ws : List WrM) : Prop where
  row : w.heap[fb]? = some (.cells #[.int .i64 f.made, vs, vu, vw] 64 (0, 0))
  seen : w.ownsRow 0 5 1 vs f.seen.length (u8s f.seen)
  sure : w.ownsRow 0 5 1 vu f.sure.length (u8s f.sure)
  wr : w.ownsRow 0 94 2 vw ws.length (wrCells ws)
  eq : f.writes = ws.map fun m => (m.k, m.x)
  wx : ∀ m ∈ ws, Cells8 w m.a m.x ∧ m.x.length ≤ m.c
  wt : ∀ m ∈ ws, ∀ g ∈ blocks m.a, IsT 5 w g
  bs : Bytes f.seen
  bu : Bytes f.sure
  ne : ∀ g, vs.ownBlock = some g → vu.ownBlock ≠ some g
  nx : ∀ m ∈ ws, ∀ g ∈ blocks m.a, vs.ownBlock ≠ some g ∧ vu.ownBlock ≠ some g
/-- the blocks that a file's calls may write, and those that they read besides -/
def fFoot (fb : Nat) (vs vu vw : Value) : List Nat := fb :: (vs.ownBlock.toList ++ (vu.ownBlock.toList ++ vw.ownBlock.toList))
def fAll (fb : Nat) (vs vu vw : Value) (ws : List WrM) : List Nat := fFoot fb vs vu vw ++ wrReads ws
theorem FileAt.mod {F : List Nat} {w w' : World} {fb : Nat} {f : FileD} {vs vu vw : Value} {ws : List WrM} (h : FileAt w fb f vs vu vw ws) (hm : Mod F w w') (hd : ∀ g ∈ fAll fb vs vu vw ws, g ∉ F) : FileAt w' fb f vs vu vw ws := by
  have d1 : fb ∉ F := hd fb (by simp [fAll, fFoot])
  have d2 : ∀ k, vs.ownBlock = some k → k ∉ F := fun k hk => hd k (by simp [fAll, fFoot, hk])
  have d3 : ∀ k, vu.ownBlock = some k → k ∉ F := fun k hk => hd k (by simp [fAll, fFoot, hk])
  have d4 : ∀ k, vw.ownBlock = some k → k ∉ F := fun k hk => hd k (by simp [fAll, fFoot, hk])
  refine ⟨hm.row h.row d1, hm.owns h.seen d2, hm.owns h.sure d3, hm.owns h.wr d4, h.eq, fun m hm' => ⟨(h.wx m hm').1.mod hm (fun x hx => hd _ ?_), (h.wx m hm').2⟩, fun m hm' g hg => ?_, h.bs, h.bu, h.ne, h.nx⟩
  rotate_left
  · obtain ⟨cur, hc⟩ := h.wt m hm' g hg
    exact ⟨cur, hm.row hc (hd g (List.mem_append.2 (.inr (List.mem_flatMap.2 ⟨m, hm', hg⟩))))⟩
  unfold fAll wrReads
  rw [List.mem_append]
  right
  rw [List.mem_flatMap]
  exact ⟨m, hm', by rw [hx]; simp [blocks]⟩
theorem FileAt.quiet {w w' : World} {fb : Nat} {f : FileD} {vs vu vw : Value} {ws : List WrM} (h : FileAt w fb f vs vu vw ws) (hm : Mod [] w w') : FileAt w' fb f vs vu vw ws := h.mod hm (by simp)
set_option maxHeartbeats 1000000 in
theorem fileOf_any (w : World) (made : Int) (a : Option Addr) (n c : Nat) (l : List Int) (h : Cells8 w a l) (hn : n = l.length) (hl : l.length ≤ 1000000000) :
    Calls Try.prog 51 #[.int .i64 made, .slice a n c] w fun e w' => ∃ fb vs vu, e = .returned (.pointer (some ⟨fb, 0, none⟩)) ∧ FileAt w' fb ⟨made, l, l, []⟩ vs vu (.slice none 0 0) [] ∧ Mod [] w w' ∧ ∀ g ∈ fAll fb vs vu (.slice none 0 0) [], w.heap.size ≤ g := by
  have HC := Lib.hid (fun W (hW : Cells8 W a l) => clone_any W a n c l hW hn hl)
  have HX := Lib.hid h
  unfold CloneP at HC
  clear h hn hl
  go_enter Try.func51, Try.ntmps51
  go_wp2_with fail
  refine (HC.out _ HX.out).mono ?_
  rintro e w1 ⟨v1, rfl, ho1, hb1⟩
  obtain ⟨a1, c1, rfl, -, -⟩ := owns_shape ho1
  have HO1 := Lib.hid ho1
  have HB1 := Lib.hid (Mod.ofBelow hb1)
  have HX1 := Lib.hid (HX.out.old hb1)
  clear ho1 hb1
  go_wp2_with fail
  refine (HC.out _ HX1.out).mono ?_
  rintro e w2 ⟨v2, rfl, ho2, hb2⟩
  obtain ⟨a2, c2, rfl, -, -⟩ := owns_shape ho2
  have HO2 := Lib.hid ho2
  have HB2 := Lib.hid (Mod.ofBelow hb2)
  clear ho2 hb2
  go_wp2_with fail
  go_ret
  have hm3 : Mod [] w2 (w2.alloc (.cells #[.int .i64 made, .slice a1 l.length c1, .slice a2 l.length c2, .slice none 0 0] 64)) := (Mod.refl [] w2).alloc _
  have hlt1 : ∀ k, (Value.slice a1 l.length c1).ownBlock = some k → w.heap.size ≤ k ∧ k < w1.heap.size := fun k hk => owns_lt HO1.out hk
  have hlt2 : ∀ k, (Value.slice a2 l.length c2).ownBlock = some k → w1.heap.size ≤ k ∧ k < w2.heap.size := fun k hk => owns_lt HO2.out hk
  have hs1 := HB1.out.size
  have hs2 := HB2.out.size
  refine ⟨w2.heap.size, _, _, rfl, ⟨heap_alloc_new w2 _, ?_, ?_, World.ownsRow_nil _ _ _ _, rfl, fun m hm => (by cases hm), fun m hm => (by cases hm), HX.out.1, HX.out.1, ?_, fun m hm => (by cases hm)⟩, (HB1.out.trans HB2.out).trans hm3, ?_⟩
  · exact hm3.owns (HB2.out.owns (owns_rebase HO1.out (fun k hk => Nat.zero_le _)) (by simp)) (by simp)
  · exact hm3.owns (owns_rebase HO2.out (fun k hk => Nat.zero_le _)) (by simp)
  · intro g hg hg2
    have h1 := hlt1 g hg
    have h2 := hlt2 g hg2
    omega
  · intro g hg
    simp only [fAll, fFoot, wrReads, List.flatMap_nil, List.append_nil, List.mem_cons, List.mem_append, Option.mem_toList, Value.ownBlock] at hg
    rcases hg with rfl | hg | hg | hg
    · omega
    · have := hlt1 g hg; omega
    · have := hlt2 g hg; omega
    · simp at hg
theorem over_all (w : World) (k : Nat) (wa : Option Addr) (wn wc base : Nat) (x : List Int) (hx : Cells8 w wa x) (hwn : wn = x.length) (hwc : wn ≤ wc) (v : Value) (l : List Int) (hl : Bytes l) (own : w.ownsRow base 5 1 v l.length (u8s l))
    (hk : k ≤ 1000000000) (hxl : x.length ≤ 1000000000) (hll : l.length ≤ 1000000000) (hbase : base ≤ w.heap.size) (hdis : ∀ g, v.ownBlock = some g → g ∉ blocks wa) (n : Nat) (hn : n ≤ x.length) :
    Calls Try.prog 57 #[.agg #[.int .i64 k, .slice wa wn wc], v, .int .i64 n] w fun e w' => ∃ v', e = .returned v' ∧ Over w base v (overL l k (x.take n)) v' w' := by
  by_cases h0 : n = 0
  · subst h0
    rw [List.take_zero, overL_nil]
    exact over_none w k wa wn wc base v l own
  · exact over_some w k n wa wn wc base x hx hwn hwc v l hl own (by omega) hn hk hxl hll hbase hdis
theorem winfo : (Try.prog.info? 94).map (fun i => (i.zero, i.size, i.bytes)) = some (some (.agg #[.int .i64 0, .slice none 0 0]), 2, 32) := by kernel_rfl
theorem wsize : (Try.prog.info? 94).map (·.size) = some 2 := by kernel_rfl
theorem bysize : (Try.prog.info? 22).map (·.size) = some 1 := by kernel_rfl
theorem wssize : (Try.prog.info? 62).map (·.size) = some 1 := by kernel_rfl
end Go.Proofs.Ytfcoaafmjllpfaa
