/- The reference's read. -/
import Derived.Test.YtondgejbmoiggaaDoorFrI
namespace Go.Proofs.YtondgejbmoiggaaDoor
open Go.ChangeShapes Go.WideShapes Go.ChangeAt Go.RowKit
set_option linter.unusedVariables false
set_option linter.unusedSimpArgs false

abbrev plCs (c nx er : Int) : Array Value := #[.int .u8 c, .int .i64 nx, .int .i64 er]
def rdR (t : List Int) (i : Nat) : Array Value := if rdE t = 0 then plCs (rdC t) (i + rdM t : Nat) 0 else plCs 0 0 (rdE t)
def ReadP (t : List Int) (i : Nat) (w : World) (e : Ending) (w' : World) : Prop := e = .returned (.agg (rdR t i)) ∧ Below w.heap.size w w'
theorem ReadP.err {t : List Int} {i : Nat} {w w' : World} {er : Int} (h : rdE t = er) (he : er ≠ 0) (hb : Below w.heap.size w w') : ReadP t i w (.returned (.agg (plCs 0 0 er))) w' := by
  subst h
  exact ⟨by rw [rdR, if_neg he], hb⟩
theorem ReadP.ok {t : List Int} {i m : Nat} {c nx : Int} {w w' : World} (h : rdE t = 0 ∧ rdM t = m ∧ rdC t = c) (hn : nx = (i + m : Nat)) (hb : Below w.heap.size w w') : ReadP t i w (.returned (.agg (plCs c nx 0))) w' := by
  obtain ⟨h1, rfl, rfl⟩ := h
  subst hn
  exact ⟨by rw [rdR, if_pos h1], hb⟩
theorem plain_size : (Tryd.prog.info? 104).map (·.size) = some 3 := by kernel_rfl
theorem res_plain {fn : Func} {p : Tmp} (h : fn.results = #[.cell p 104]) (tmps : Array Value) (w : World) (g : Nat) (t : TypeId) (cs : Array Value) (fr : Nat × Nat)
    (hp : tmps.getD p undef = .pointer (some ⟨g, 0, none⟩)) (hg : w.heap[g]? = some (.cells cs t fr)) (hs : cs.size = 3) :
    (results fn tmps).run Tryd.prog w = .ok (.agg cs) w :=
  results_cell_row h tmps w g t cs fr _ hp hg Tryd.underlying104 rfl (by rw [hs]; exact plain_size)

set_option maxHeartbeats 2000000 in
theorem read_any (l : List Int) (a : Option Addr) (n cap i : Nat) (w : World) (hc : Cells8 w a l) (hn : n = l.length) (hl : l.length ≤ 1000000000) (hi : i ≤ l.length) :
    Calls Tryd.prog 63 #[.slice a n cap, .int .i64 i] w (ReadP (l.drop i) i w) := by
  subst hn
  have HC := Lib.hid hc
  clear hc
  have HB : ∀ cs, Below w.heap.size w (w.alloc (.cells cs 104)) := fun cs => ((Mod.refl [] w).alloc _).toBelow (Nat.le_refl _) (by simp)
  have HBh := Lib.hid HB
  clear HB
  by_cases hend : i = l.length
  · subst hend
    have HE := Lib.hid (show rdE (l.drop l.length) = 2 by simp [rdE])
    go_enter Tryd.func63, Tryd.ntmps63
    go_wp2_with fail
    exact bodyPost_ret (v := .agg (plCs 0 0 2)) (res_plain rfl _ _ w.heap.size _ (plCs 0 0 2) (0, 0) rfl (heap_alloc_new w _) rfl) rfl (ReadP.err HE.out (by decide) (HBh.out _))
  have hlt : i < l.length := by omega
  clear hend
  obtain ⟨b, o, rfl, hbw⟩ := HC.out.addr (by omega)
  have HCell : Hid (∀ cs, (w.alloc (.cells cs 104)).cell? ⟨b, o + i, none⟩ = some (.int .u8 (l.getD i 0))) := Lib.hid fun cs => (HC.out.mod ((Mod.refl [] w).alloc _) (by simp)).at i hlt
  have hcell := HCell.out (plCs 0 0 0)
  have hcell0 := HC.out.at i hlt
  have hy := HC.out.1.getD i
  have Hd := Lib.hid (drop_getD l i hlt)
  have hz := HC.out.1.getD (i + 1)
  have Hd2 : Hid (i + 1 < l.length → l.drop (i + 1) = l.getD (i + 1) 0 :: l.drop (i + 2)) := Lib.hid fun h => drop_getD l (i + 1) h
  have Hd3 : Hid (¬ i + 1 < l.length → l.drop (i + 1) = []) := Lib.hid fun h => by simp; omega
  have HCz : Hid (i + 1 < l.length → w.cell? ⟨b, o + (i + 1), none⟩ = some (.int .u8 (l.getD (i + 1) 0))) := Lib.hid fun h => HC.out.at (i + 1) h
  generalize l.getD i 0 = y at *
  generalize l.getD (i + 1) 0 = z at *
  by_cases h80 : y = 80
  · have HE := Lib.hid (show rdE (l.drop i) = 3 by rw [Hd.out]; simp [rdE, h80])
    subst h80
    go_enter Tryd.func63, Tryd.ntmps63
    go_wp2_with fail
    exact bodyPost_ret (v := .agg (plCs 0 0 3)) (res_plain rfl _ _ w.heap.size _ (plCs 0 0 3) (0, 0) rfl (heap_alloc_new w _) rfl) rfl (ReadP.err HE.out (by decide) (HBh.out _))
  have e80 : (y == 80) = false := by simp [h80]
  by_cases h81 : y = 81
  · subst h81
    clear h80
    by_cases hl1 : i + 1 < l.length
    case neg =>
      have HE := Lib.hid (show rdE (l.drop i) = 2 by rw [Hd.out, Hd3.out hl1]; simp [rdE])
      go_enter Tryd.func63, Tryd.ntmps63
      go_wp2_with fail
      exact bodyPost_ret (v := .agg (plCs 0 0 2)) (res_plain rfl _ _ w.heap.size _ (plCs 0 0 2) (0, 0) rfl (heap_alloc_new w _) rfl) rfl (ReadP.err HE.out (by decide) (HBh.out _))
    have hcz := HCz.out hl1
    by_cases hz0 : z = 0
    · have HE := Lib.hid (show rdE (l.drop i) = 0 ∧ rdM (l.drop i) = 2 ∧ rdC (l.drop i) = 80 by rw [Hd.out, Hd2.out hl1]; simp [rdE, rdM, rdC, hz0])
      subst hz0
      go_enter Tryd.func63, Tryd.ntmps63
      go_wp2_with fail
      exact bodyPost_ret (v := .agg (plCs 80 (i + 2) 0)) (res_plain rfl _ _ w.heap.size _ (plCs 80 (i + 2) 0) (0, 0) rfl (heap_alloc_new w _) rfl) rfl (ReadP.ok HE.out (by omega) (HBh.out _))
    by_cases hz1 : z = 1
    · have HE := Lib.hid (show rdE (l.drop i) = 0 ∧ rdM (l.drop i) = 2 ∧ rdC (l.drop i) = 81 by rw [Hd.out, Hd2.out hl1]; simp [rdE, rdM, rdC, hz1])
      subst hz1
      go_enter Tryd.func63, Tryd.ntmps63
      go_wp2_with fail
      exact bodyPost_ret (v := .agg (plCs 81 (i + 2) 0)) (res_plain rfl _ _ w.heap.size _ (plCs 81 (i + 2) 0) (0, 0) rfl (heap_alloc_new w _) rfl) rfl (ReadP.ok HE.out (by omega) (HBh.out _))
    have HE := Lib.hid (show rdE (l.drop i) = 3 by rw [Hd.out, Hd2.out hl1]; simp [rdE]; omega)
    have e0 : (z == 0) = false := by simp [hz0]
    have e1 : (z == 1) = false := by simp [hz1]
    clear hz0 hz1
    go_enter Tryd.func63, Tryd.ntmps63
    go_wp2_with fail
    exact bodyPost_ret (v := .agg (plCs 0 0 3)) (res_plain rfl _ _ w.heap.size _ (plCs 0 0 3) (0, 0) rfl (heap_alloc_new w _) rfl) rfl (ReadP.err HE.out (by decide) (HBh.out _))
  · have HE := Lib.hid (show rdE (l.drop i) = 0 ∧ rdM (l.drop i) = 1 ∧ rdC (l.drop i) = y by rw [Hd.out]; simp [rdE, rdM, rdC, h80, h81])
    have e81 : (y == 81) = false := by simp [h81]
    have e81' : (y != 81) = true := by simp [h81]
    clear h80 h81
    go_enter Tryd.func63, Tryd.ntmps63
    go_wp2_with fail
    exact bodyPost_ret (v := .agg (plCs y (i + 1) 0)) (res_plain rfl _ _ w.heap.size _ (plCs y (i + 1) 0) (0, 0) rfl (heap_alloc_new w _) rfl) rfl (ReadP.ok HE.out (by omega) (HBh.out _))
end Go.Proofs.YtondgejbmoiggaaDoor
