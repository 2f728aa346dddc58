/- The decoder as its states: keep, stand, take. -/
import Derived.Test.YthcgnnhfkejglaaDoorDtA
namespace Go.Proofs.YthcgnnhfkejglaaDoor
open Go.ChangeShapes Go.WideShapes Go.ChangeAt Go.RowKit
set_option linter.unusedVariables false
set_option linter.unusedSimpArgs false

/-- at g stands a decoder in the state s that keeps at most M bytes, in the slice v -/
structure Dec (w : World) (g : Nat) (v : Value) (s : Dst) (M : Nat) : Prop where
  row : w.heap[g]? = some (decO s.st s.line M v s.long s.bare (decide (M < s.all.length)))
  own : w.ownsRow 0 5 1 v (s.all.take M).length (u8s (s.all.take M))
  byt : Bytes s.all
/-- behind a call on the decoder -/
structure Dput (g : Nat) (v : Value) (s' : Dst) (M : Nat) (w : World) (v' : Value) (w' : World) : Prop where
  dec : Dec w' g v' s' M
  mod : Mod (g :: v.ownBlock.toList) w w'
  blk : ∀ k, v'.ownBlock = some k → v.ownBlock = some k ∨ w.heap.size ≤ k
theorem Dec.lt {w : World} {g : Nat} {v : Value} {s : Dst} {M : Nat} (h : Dec w g v s M) : g < w.heap.size := blk_lt h.row
theorem Dec.ne {w : World} {g : Nat} {v : Value} {s : Dst} {M : Nat} (h : Dec w g v s M) : ∀ k, v.ownBlock = some k → k ≠ g := dec_ne h.row h.own
theorem Dec.mod {F : List Nat} {w w' : World} {g : Nat} {v : Value} {s : Dst} {M : Nat} (h : Dec w g v s M) (hm : Mod F w w') (hg : g ∉ F) (hv : ∀ k, v.ownBlock = some k → k ∉ F) : Dec w' g v s M :=
  ⟨hm.row h.row hg, hm.owns h.own hv, h.byt⟩
theorem Dec.quiet {w w' : World} {g : Nat} {v : Value} {s : Dst} {M : Nat} (h : Dec w g v s M) (hm : Mod [] w w') : Dec w' g v s M := h.mod hm (by simp) (by simp)
theorem Dput.refl {w : World} {g : Nat} {v : Value} {s : Dst} {M : Nat} (h : Dec w g v s M) : Dput g v s M w v w := ⟨h, Mod.refl _ _, fun _ hk => Or.inl hk⟩
theorem Dput.ofMod {w w1 : World} {g : Nat} {v : Value} {s : Dst} {M : Nat} (h : Dec w g v s M) (hm : Mod [] w w1) : Dput g v s M w v w1 :=
  ⟨h.quiet hm, hm.mono (by intro x hx; cases hx), fun _ hk => Or.inl hk⟩
theorem Dput.trans {g : Nat} {v v1 v2 : Value} {s1 s2 : Dst} {M : Nat} {w w1 w2 : World} (h : Dput g v s1 M w v1 w1) (k : Dput g v1 s2 M w1 v2 w2) : Dput g v s2 M w v2 w2 := by
  have hsz := h.mod.size
  refine ⟨k.dec, h.mod.trans' k.mod ?_, ?_⟩
  · intro x hx
    simp only [List.mem_cons, Option.mem_toList] at hx
    rcases hx with rfl | hx
    · left; simp
    · rcases h.blk x hx with h1 | h1
      · left; simp [h1]
      · right; exact h1
  · intro x hx
    rcases k.blk x hx with h1 | h1
    · exact h.blk x h1
    · right; omega
/-- the state is written -/
theorem Dec.sets {w w1 : World} {g : Nat} {v : Value} {s s' : Dst} {M : Nat} (h : Dec w g v s M) (hm : Mod [g] w w1) (hr : w1.heap[g]? = some (decO s'.st s'.line M v s'.long s'.bare (decide (M < s'.all.length)))) (ha : s'.all = s.all) : Dput g v s' M w v w1 :=
  ⟨⟨hr, by rw [ha]; exact hm.owns h.own (fun k hk hx => h.ne k hk (by simpa using hx)), by rw [ha]; exact h.byt⟩, hm.mono (by intro x hx; left; simp at hx; simp [hx]), fun _ hk => Or.inl hk⟩

def DputP (g : Nat) (v : Value) (s' : Dst) (M : Nat) (w : World) (e : Ending) (w' : World) : Prop := e = .returned (.tuple #[]) ∧ ∃ v', Dput g v s' M w v' w'
theorem take_app (a r : List Int) (M : Nat) : (a ++ r).take M = a.take M ++ r.take (M - (a.take M).length) := by
  rw [List.take_append, List.length_take]
  by_cases h : M ≤ a.length
  · have e1 : M - a.length = 0 := by omega
    have e2 : M - min M a.length = 0 := by omega
    rw [e1, e2]
  · rw [Nat.min_eq_right (by omega)]
theorem large_app (a r : List Int) (M : Nat) : (decide (M < a.length) || decide (M - (a.take M).length < r.length)) = decide (M < (a ++ r).length) := by
  rw [List.length_take, List.length_append]
  by_cases h : M < a.length
  · simp [h]; omega
  · rw [Nat.min_eq_right (by omega)]
    by_cases h2 : M - a.length < r.length
    · simp [h2]; omega
    · simp [h, h2]; omega
theorem keepD (w : World) (g : Nat) (v : Value) (s : Dst) (M : Nat) (h : Dec w g v s M) (hM : M ≤ 9223372036854775807) (hl : s.all.length ≤ 1000000) (hli : s.line ≤ 1000000)
    (b n cap : Nat) (r : List Int) (hb : g ≠ b) (hr : Cells8 w (some ⟨b, 0, none⟩) r) (hn : n = r.length) (hnc : n ≤ cap) (hn2 : n ≤ 2) :
    Calls Tryd.prog 33 #[.pointer (some ⟨g, 0, none⟩), .slice (some ⟨b, 0, none⟩) n cap] w (DputP g v (keepS s r) M w) := by
  have hkl : (s.all.take M).length ≤ M := by rw [List.length_take]; omega
  have hkl2 : (s.all.take M).length ≤ 1000000 := by rw [List.length_take]; omega
  refine (keep_any w g s.st s.line M v s.long s.bare _ h.row (s.all.take M) h.own hkl hM hkl2 hli b n cap r hb hr hn hnc hn2).mono ?_
  rintro e w1 ⟨rfl, v1, hp⟩
  subst hn
  refine ⟨rfl, v1, ⟨?_, ?_, ?_⟩, hp.mod, hp.blk⟩
  · have := hp.row
    rw [large_app] at this
    exact this
  · have := hp.own
    rw [← take_app] at this
    exact this
  · exact h.byt.append hr.1
theorem standD (w : World) (g : Nat) (v : Value) (s : Dst) (M : Nat) (h : Dec w g v s M) (x : Int) :
    Calls Tryd.prog 34 #[.pointer (some ⟨g, 0, none⟩), .int .u8 x] w (DputP g v (standS s x) M w) := by
  refine (stand_any w g s.st s.line M v s.long s.bare _ h.row x).mono ?_
  rintro e w1 ⟨rfl, hr, hm⟩
  exact ⟨rfl, v, h.sets (s' := standS s x) hm hr rfl⟩
theorem cells8_new (w : World) (l : List Int) (hb : Bytes l) : Cells8 (w.alloc (.cells (u8s l).toArray 5)) (some ⟨w.heap.size, 0, none⟩) l := by
  refine ⟨hb, .inr ⟨w.heap.size, 0, rfl, fun i hi => ?_⟩⟩
  rw [Nat.zero_add, cell_of_row _ _ _ _ _ _ (heap_alloc_new w _)]
  simp [List.getD, hi]

theorem cells8_new' (w : World) (b : Nat) (hb' : w.heap.size = b) (l : List Int) (hb : Bytes l) : Cells8 (w.alloc (.cells (u8s l).toArray 5)) (some ⟨b, 0, none⟩) l := by subst hb'; exact cells8_new w l hb
/-- a literal of bytes, keep, stand -/
theorem DputP.lit {w : World} {g : Nat} {v : Value} {s : Dst} {M : Nat} (h : Dec w g v s M) (o : Obj) : Dput g v s M w v (w.alloc o) := Dput.ofMod h ((Mod.refl [] w).alloc o)

set_option maxHeartbeats 2000000 in
theorem take_any (w : World) (g : Nat) (v : Value) (s : Dst) (M : Nat) (h : Dec w g v s M) (hM : M ≤ 9223372036854775807) (hl : s.all.length ≤ 100000) (hli : s.line ≤ 100000) (h5 : s.st < 5) (x : Int) (hx : 0 ≤ x ∧ x < 256) :
    Calls Tryd.prog 26 #[.pointer (some ⟨g, 0, none⟩), .int .u8 x] w (DputP g v (stepS s x) M w) := by
  have hlt := h.lt
  have hne : g ≠ w.heap.size := by omega
  have HX := Lib.hid (show Bytes [x] by intro y hy; rw [List.mem_singleton.1 hy]; exact hx)
  have H := Lib.hid h
  have k0 := blk_cell h.row 0
  have z0 := blk_free h.row 0
  have z1 := blk_free h.row 1
  have k5 := blk_cell h.row 5
  have z5 := blk_free h.row 5
  clear h
  obtain ⟨st, line, all, long, bare⟩ := s
  simp only at hl hli h5 k0 k5
  have HX1 := HX
  have HX2 := Lib.hid (show Bytes [13, x] by intro y hy; rcases List.mem_cons.1 hy with rfl | hy; exact ⟨by omega, by omega⟩; rw [List.mem_singleton.1 hy]; exact hx)
  have HX1 := HX
  have HX2 := Lib.hid (show Bytes [13, x] by intro y hy; rcases List.mem_cons.1 hy with rfl | hy; exact ⟨by omega, by omega⟩; rw [List.mem_singleton.1 hy]; exact hx)
  rcases (by omega : st = 0 ∨ st = 1 ∨ st = 2 ∨ st = 3 ∨ st = 4) with rfl | rfl | rfl | rfl | rfl
  · by_cases hq : x = 46
    · subst hq
      go_enter Tryd.func26, Tryd.ntmps26
      go_wp2
      go_end0
      exact ⟨rfl, v, H.out.sets (s' := ⟨1, line, all, long, bare⟩) ((Mod.refl [g] w).setCell (p := ⟨g, 0, none⟩) (Or.inl (by simp)) _) (by rw [blk_set H.out.row 0 _]; simp) rfl⟩
    · have eq : (x == 46) = false := by simpa using hq
      have he : stepS ⟨0, line, all, long, bare⟩ x = standS (keepS ⟨0, line, all, long, bare⟩ [x]) x := by simp [stepS, hq]
      rw [he]
      have HA := Lib.hid (DputP.lit H.out (.cells #[.int .u8 x] 5))
      have HK := Lib.hid (keepD _ g v _ M HA.out.dec hM (by simp only; omega) (by simp only; omega) w.heap.size 1 1 [x] hne (cells8_new w [x] HX1.out) rfl (by omega) (by omega))
      go_enter Tryd.func26, Tryd.ntmps26
      go_wp2_with fail
      refine HK.out.mono ?_
      rintro e w1 ⟨rfl, v1, hp1⟩
      have HS := Lib.hid (standD w1 g v1 _ M hp1.dec x)
      have HP := Lib.hid (HA.out.trans hp1)
      clear hp1
      go_wp2_with fail
      refine HS.out.mono ?_
      rintro e w2 ⟨rfl, v2, hp2⟩
      have HQ := Lib.hid (HP.out.trans hp2)
      clear hp2
      go_wp2_with fail
      go_end0
      exact ⟨rfl, v2, HQ.out⟩
  · by_cases hq : x = 13
    · subst hq
      go_enter Tryd.func26, Tryd.ntmps26
      go_wp2
      go_end0
      exact ⟨rfl, v, H.out.sets (s' := ⟨2, line, all, long, bare⟩) ((Mod.refl [g] w).setCell (p := ⟨g, 0, none⟩) (Or.inl (by simp)) _) (by rw [blk_set H.out.row 0 _]; simp) rfl⟩
    · have eq : (x == 13) = false := by simpa using hq
      have he : stepS ⟨1, line, all, long, bare⟩ x = standS (keepS ⟨1, line, all, long, bare⟩ [x]) x := by simp [stepS, hq]
      rw [he]
      have HA := Lib.hid (DputP.lit H.out (.cells #[.int .u8 x] 5))
      have HK := Lib.hid (keepD _ g v _ M HA.out.dec hM (by simp only; omega) (by simp only; omega) w.heap.size 1 1 [x] hne (cells8_new w [x] HX1.out) rfl (by omega) (by omega))
      go_enter Tryd.func26, Tryd.ntmps26
      go_wp2_with fail
      refine HK.out.mono ?_
      rintro e w1 ⟨rfl, v1, hp1⟩
      have HS := Lib.hid (standD w1 g v1 _ M hp1.dec x)
      have HP := Lib.hid (HA.out.trans hp1)
      clear hp1
      go_wp2_with fail
      refine HS.out.mono ?_
      rintro e w2 ⟨rfl, v2, hp2⟩
      have HQ := Lib.hid (HP.out.trans hp2)
      clear hp2
      go_wp2_with fail
      go_end0
      exact ⟨rfl, v2, HQ.out⟩
  · by_cases hq : x = 10
    · subst hq
      go_enter Tryd.func26, Tryd.ntmps26
      go_wp2
      go_end0
      exact ⟨rfl, v, H.out.sets (s' := ⟨5, line, all, long, bare⟩) ((Mod.refl [g] w).setCell (p := ⟨g, 0, none⟩) (Or.inl (by simp)) _) (by rw [blk_set H.out.row 0 _]; simp) rfl⟩
    · have eq : (x == 10) = false := by simpa using hq
      have he : stepS ⟨2, line, all, long, bare⟩ x = standS (keepS (bareS ⟨2, line, all, long, bare⟩) [13, x]) x := by simp [stepS, hq]
      rw [he]
      have HB := Lib.hid (H.out.sets (s' := bareS ⟨2, line, all, long, bare⟩) ((Mod.refl [g] w).setCell (p := ⟨g, 5, none⟩) (Or.inl (by simp)) (.bool true)) (by rw [blk_set H.out.row 5 _]; rfl) rfl)
      have HA := Lib.hid (HB.out.trans (DputP.lit HB.out.dec (.cells #[.int .u8 13, .int .u8 x] 5)))
      have HK := Lib.hid (keepD _ g v _ M HA.out.dec hM (by simp only [bareS]; omega) (by simp only [bareS]; omega) w.heap.size 2 2 [13, x] hne (cells8_new' (w.setCell ⟨g, 5, none⟩ (.bool true)) w.heap.size (by simp) [13, x] HX2.out) rfl (by omega) (by omega))
      go_enter Tryd.func26, Tryd.ntmps26
      go_wp2_with fail
      refine HK.out.mono ?_
      rintro e w1 ⟨rfl, v1, hp1⟩
      have HS := Lib.hid (standD w1 g v1 _ M hp1.dec x)
      have HP := Lib.hid (HA.out.trans hp1)
      clear hp1
      go_wp2_with fail
      refine HS.out.mono ?_
      rintro e w2 ⟨rfl, v2, hp2⟩
      have HQ := Lib.hid (HP.out.trans hp2)
      clear hp2
      go_wp2_with fail
      go_end0
      exact ⟨rfl, v2, HQ.out⟩
  · by_cases hq : x = 10
    · subst hq
      have he : stepS ⟨3, line, all, long, bare⟩ 10 = lineS (keepS ⟨3, line, all, long, bare⟩ [10]) := by simp [stepS]
      rw [he]
      have HA := Lib.hid (DputP.lit H.out (.cells #[.int .u8 10] 5))
      have HK := Lib.hid (keepD _ g v _ M HA.out.dec hM (by simp only; omega) (by simp only; omega) w.heap.size 1 1 [10] hne (cells8_new w [10] HX1.out) rfl (by omega) (by omega))
      go_enter Tryd.func26, Tryd.ntmps26
      go_wp2_with fail
      refine HK.out.mono ?_
      rintro e w1 ⟨rfl, v1, hp1⟩
      have y0 := blk_cell hp1.dec.row 0
      have x0 := blk_free hp1.dec.row 0
      have y1 := blk_cell hp1.dec.row 1
      have x1 := blk_free hp1.dec.row 1
      have HD := Lib.hid hp1.dec
      have HP := Lib.hid (HA.out.trans hp1)
      clear hp1
      go_wp2
      go_end0
      exact ⟨rfl, v1, HP.out.trans (HD.out.sets (s' := lineS (keepS ⟨3, line, all, long, bare⟩ [10])) (((Mod.refl [g] w1).setCell (p := ⟨g, 0, none⟩) (Or.inl (by simp)) _).setCell (p := ⟨g, 1, none⟩) (Or.inl (by simp)) _) (by rw [blk_set (blk_set HD.out.row 0 _) 1 _]; rfl) rfl)⟩
    · have eq : (x == 10) = false := by simpa using hq
      have he : stepS ⟨3, line, all, long, bare⟩ x = standS (keepS (bareS ⟨3, line, all, long, bare⟩) [x]) x := by simp [stepS, hq]
      rw [he]
      have HB := Lib.hid (H.out.sets (s' := bareS ⟨3, line, all, long, bare⟩) ((Mod.refl [g] w).setCell (p := ⟨g, 5, none⟩) (Or.inl (by simp)) (.bool true)) (by rw [blk_set H.out.row 5 _]; rfl) rfl)
      have HA := Lib.hid (HB.out.trans (DputP.lit HB.out.dec (.cells #[.int .u8 x] 5)))
      have HK := Lib.hid (keepD _ g v _ M HA.out.dec hM (by simp only [bareS]; omega) (by simp only [bareS]; omega) w.heap.size 1 1 [x] hne (cells8_new' (w.setCell ⟨g, 5, none⟩ (.bool true)) w.heap.size (by simp) [x] HX1.out) rfl (by omega) (by omega))
      go_enter Tryd.func26, Tryd.ntmps26
      go_wp2_with fail
      refine HK.out.mono ?_
      rintro e w1 ⟨rfl, v1, hp1⟩
      have HS := Lib.hid (standD w1 g v1 _ M hp1.dec x)
      have HP := Lib.hid (HA.out.trans hp1)
      clear hp1
      go_wp2_with fail
      refine HS.out.mono ?_
      rintro e w2 ⟨rfl, v2, hp2⟩
      have HQ := Lib.hid (HP.out.trans hp2)
      clear hp2
      go_wp2_with fail
      go_end0
      exact ⟨rfl, v2, HQ.out⟩
  · have he : stepS ⟨4, line, all, long, bare⟩ x = standS (keepS ⟨4, line, all, long, bare⟩ [x]) x := by simp [stepS]
    rw [he]
    have HA := Lib.hid (DputP.lit H.out (.cells #[.int .u8 x] 5))
    have HK := Lib.hid (keepD _ g v _ M HA.out.dec hM (by simp only; omega) (by simp only; omega) w.heap.size 1 1 [x] hne (cells8_new w [x] HX1.out) rfl (by omega) (by omega))
    go_enter Tryd.func26, Tryd.ntmps26
    go_wp2_with fail
    refine HK.out.mono ?_
    rintro e w1 ⟨rfl, v1, hp1⟩
    have HS := Lib.hid (standD w1 g v1 _ M hp1.dec x)
    have HP := Lib.hid (HA.out.trans hp1)
    clear hp1
    go_wp2_with fail
    refine HS.out.mono ?_
    rintro e w2 ⟨rfl, v2, hp2⟩
    have HQ := Lib.hid (HP.out.trans hp2)
    clear hp2
    go_wp2_with fail
    go_end0
    exact ⟨rfl, v2, HQ.out⟩
end Go.Proofs.YthcgnnhfkejglaaDoor
