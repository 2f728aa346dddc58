import Derived.Test.YthcgnnhfkejglaaGreatDoorCmL
/- Commands: readSize, readBody. -/
namespace Go.Proofs.YthcgnnhfkejglaaGreatDoor
open Go.Shelf Go.ChangeShapes Go.WideShapes Go.ChangeAt Go.RowKit
set_option linter.unusedVariables false
set_option linter.unusedSimpArgs false

/-- the cells of a command -/
abbrev cmC (v : Int) (a lo dm : ByteArray) (n : Bool) (sz bd : Int) : Array Value := #[.int .i64 v, .string a, .string lo, .string dm, .bool n, .int .i64 sz, .int .i64 bd]
def sizeS (sz : Int) (t : List Int) : Int × Int := match sizeL t with | some u => (u, 0) | none => (sz, 501)
def bodyS (bd : Int) (t : List Int) : Int × Int := match bodyL t with | some u => (u, 0) | none => (bd, 501)
/-- what a reader of the size or the body leaves -/
def FieldP (cb : Nat) (cs : Array Value) (code : Int) (w : World) (e : Ending) (w' : World) : Prop := e = .returned (.int .i64 code) ∧ w'.heap[cb]? = some (.cells cs 25 (0, 0)) ∧ Mod [cb] w w'

set_option maxHeartbeats 1000000 in
theorem readSize_any (cb : Nat) (v : Int) (a lo dm : ByteArray) (n : Bool) (sz bd : Int) (s : ByteArray) (w : World) (hE : Env w) (hs : s.size ≤ 100000) (hb : w.heap[cb]? = some (.cells (cmC v a lo dm n sz bd) 25 (0, 0))) :
    Calls Tryz.prog 89 #[.pointer (some ⟨cb, 0, none⟩), .string s] w (FieldP cb (cmC v a lo dm n (sizeS sz (nums s)).1 bd) (sizeS sz (nums s)).2 w) := by
  have HU := Lib.hid (uint_any s w hE hs)
  have HN := Lib.hid hb
  clear hb hE
  go_enter Tryz.func89, Tryz.ntmps89
  go_wp2_with fail
  refine HU.out.mono ?_
  rintro e w1 ⟨hb1, h⟩
  have HN1 := Lib.hid (below_blk hb1 HN.out)
  have HM1 := Lib.hid (Mod.ofBelow hb1)
  clear hb1
  rcases h with ⟨u, rfl, hu⟩ | ⟨x, t, vv, rfl, hu⟩
  · by_cases hok : u ≤ 9007199254740992 ∧ s.size ≤ 20
    · rw [if_pos hok] at hu
      have HS := Lib.hid (show sizeS sz (nums s) = ((u : Int), 0) by unfold sizeS; rw [hu])
      obtain ⟨hu1, hs1⟩ := hok
      clear hu
      have hu2 : (u : Int) ≤ 9007199254740992 := by omega
      have hs2 : (s.size : Int) ≤ 20 := by omega
      have y0 := blk_free HN1.out 5
      have k0 := blk_cell HN1.out 5
      go_wp2_with fail
      go_ret
      rw [HS.out]
      exact ⟨rfl, blk_set HN1.out 5 _, (HM1.out.mono (by simp)).setCell (p := ⟨cb, 5, none⟩) (Or.inl (by simp)) _⟩
    · rw [if_neg hok] at hu
      have HS := Lib.hid (show sizeS sz (nums s) = (sz, 501) by unfold sizeS; rw [hu])
      clear hu
      by_cases hu1 : u ≤ 9007199254740992
      · have hu2 : (u : Int) ≤ 9007199254740992 := by omega
        have hs2 : (20 : Int) < (s.size : Int) := by omega
        go_wp2_with fail
        go_ret
        rw [HS.out]
        exact ⟨rfl, HN1.out, HM1.out.mono (by simp)⟩
      · have hu2 : (9007199254740992 : Int) < (u : Int) := by omega
        go_wp2_with fail
        go_ret
        rw [HS.out]
        exact ⟨rfl, HN1.out, HM1.out.mono (by simp)⟩
  · have HS := Lib.hid (show sizeS sz (nums s) = (sz, 501) by unfold sizeS; rw [hu])
    clear hu
    go_wp2_with fail
    go_ret
    rw [HS.out]
    exact ⟨rfl, HN1.out, HM1.out.mono (by simp)⟩

set_option maxHeartbeats 1000000 in
theorem readBody_any (cb : Nat) (v : Int) (a lo dm : ByteArray) (n : Bool) (sz bd : Int) (s : ByteArray) (w : World) (hs : s.size ≤ 100000) (hb : w.heap[cb]? = some (.cells (cmC v a lo dm n sz bd) 25 (0, 0))) :
    Calls Tryz.prog 90 #[.pointer (some ⟨cb, 0, none⟩), .string s] w (FieldP cb (cmC v a lo dm n sz (bodyS bd (nums s)).1) (bodyS bd (nums s)).2 w) := by
  have HN := Lib.hid hb
  clear hb
  have h7 : ((strOfNums (upL (nums s))).toList == [55, 66, 73, 84]) = decide (upL (nums s) = [55, 66, 73, 84]) := by rw [str_isB, nums_strOfNums (upL_bytes (nums_bytes s))]; rfl
  have h8 : ((strOfNums (upL (nums s))).toList == [56, 66, 73, 84, 77, 73, 77, 69]) = decide (upL (nums s) = [56, 66, 73, 84, 77, 73, 77, 69]) := by rw [str_isB, nums_strOfNums (upL_bytes (nums_bytes s))]; rfl
  have HB := Lib.hid (show bodyS bd (nums s) = if upL (nums s) = [55, 66, 73, 84] then (7, 0) else if upL (nums s) = [56, 66, 73, 84, 77, 73, 77, 69] then (8, 0) else (bd, 501) by
    unfold bodyS bodyL
    split
    · rename_i u h
      split at h
      · injection h with h; subst h; rename_i e; rw [if_pos e]; rfl
      · split at h
        · injection h with h; subst h; rename_i e1 e2; rw [if_neg e1, if_pos e2]; rfl
        · cases h
    · rename_i h
      split at h
      · cases h
      · split at h
        · cases h
        · rename_i e1 e2; rw [if_neg e1, if_neg e2])
  go_enter Tryz.func90, Tryz.ntmps90
  go_wp2_with fail
  refine (great_any s w hs).mono ?_
  rintro e w1 ⟨rfl, hb1⟩
  have HN1 := Lib.hid (below_blk hb1 HN.out)
  have HM1 := Lib.hid (Mod.ofBelow hb1)
  clear hb1
  have y0 := blk_free HN1.out 6
  have k0 := blk_cell HN1.out 6
  by_cases e7 : upL (nums s) = [55, 66, 73, 84]
  · rw [decide_eq_true e7] at h7
    have HR := Lib.hid (HB.out.trans (if_pos e7))
    clear e7 h8
    generalize strOfNums (upL (nums s)) = u at *
    go_wp2_with fail
    go_ret
    rw [HR.out]
    exact ⟨rfl, blk_set HN1.out 6 _, (HM1.out.mono (by simp)).setCell (p := ⟨cb, 6, none⟩) (Or.inl (by simp)) _⟩
  · rw [decide_eq_false e7] at h7
    by_cases e8 : upL (nums s) = [56, 66, 73, 84, 77, 73, 77, 69]
    · rw [decide_eq_true e8] at h8
      have HR := Lib.hid (HB.out.trans ((if_neg e7).trans (if_pos e8)))
      clear e7 e8
      generalize strOfNums (upL (nums s)) = u at *
      go_wp2_with fail
      go_ret
      rw [HR.out]
      exact ⟨rfl, blk_set HN1.out 6 _, (HM1.out.mono (by simp)).setCell (p := ⟨cb, 6, none⟩) (Or.inl (by simp)) _⟩
    · rw [decide_eq_false e8] at h8
      have HR := Lib.hid (HB.out.trans ((if_neg e7).trans (if_neg e8)))
      clear e7 e8
      generalize strOfNums (upL (nums s)) = u at *
      go_wp2_with fail
      go_ret
      rw [HR.out]
      exact ⟨rfl, HN1.out, HM1.out.mono (by simp)⟩
end Go.Proofs.YthcgnnhfkejglaaGreatDoor

