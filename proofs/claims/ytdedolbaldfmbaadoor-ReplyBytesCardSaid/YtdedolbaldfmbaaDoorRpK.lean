/- Replies: single. -/
import Derived.Test.YtdedolbaldfmbaaDoorRpF
import Derived.Test.YtdedolbaldfmbaaDoorRpS
import Derived.Deep.RegionHeld3
namespace Go.Proofs.YtdedolbaldfmbaaDoor
open Go.Shelf Go.ChangeShapes Go.WideShapes Go.ChangeAt Go.RowKit
set_option linter.unusedVariables false
set_option linter.unusedSimpArgs false

theorem rep_size : (Tryd.prog.info? 24).map (·.size) = some 3 := by kernel_rfl
theorem ccut_any (s : ByteArray) (w : World) (hE : Env w) (hs : s.size ≤ 100000) :
    Calls Tryd.prog 35 #[.string s, .string { data := #[32] }] w fun e w' => e = .returned (.tuple #[.string (strOfNums (cutW 32 (nums s))), .string (strOfNums (cutR 32 (nums s))), .bool (cutB 32 (nums s))]) ∧ Mod [] w w' := by
  obtain ⟨m, hm⟩ := hE.ml
  refine (Tryd.strings_Cut s { data := #[32] } m w (by omega) hm).mono ?_
  rintro e w' ⟨rfl, n, rfl⟩
  obtain ⟨h1, h2, h3⟩ := cut_nums s 32
  have e0 : ({ data := #[32] } : ByteArray).data.toList = [32] := rfl
  rw [e0, h1, h2, h3]
  exact ⟨rfl, mod_drewN w n⟩
theorem slice_to (s : ByteArray) (j : Nat) (hj : j ≤ s.size) (D : ByteArray) (hD : s.extract 0 j = D) : ∀ W, (Instr.slice 9 (.string s) none (some (.int .i64 (j : Int))) none).run Tryd.prog W = .ok (.string D) W := fun W => by
  rw [run_slice_string_to_if (h := Tryd.underlying9), if_pos ⟨by omega, by omega⟩, ← hD]
  simp
theorem slice_from (s : ByteArray) (j : Nat) (hj : j ≤ s.size) (D : ByteArray) (hD : s.extract j s.size = D) : ∀ W, (Instr.slice 9 (.string s) (some (.int .i64 (j : Int))) none none).run Tryd.prog W = .ok (.string D) W := fun W => by
  rw [run_slice_string_from_if (h := Tryd.underlying9), if_pos ⟨by omega, by omega⟩, ← hD]
  simp
theorem res_cell_tmp2_row {P : Program} {fn : Func} {p u u' : Tmp} {ty : TypeId} (h : fn.results = #[.cell p ty, .tmp u, .tmp u']) (tmps : Array Value) (w : World) (g : Nat) (t : TypeId) (cs : Array Value) (fr : Nat × Nat) (d : TypeDesc)
    (hp : tmps.getD p undef = .pointer (some ⟨g, 0, none⟩)) (hg : w.heap[g]? = some (.cells cs t fr))
    (hu : P.underlying ty = some d) (hd : (match d with | .struct _ | .array _ _ => true | _ => false) = true) (hi : (P.info? ty).map (·.size) = some cs.size) (v v' : Value) (hv : tmps.getD u undef = v) (hv' : tmps.getD u' undef = v') :
    (results fn tmps).run P w = .ok (.tuple #[.agg cs, v, v']) w := by
  have hp' : tmps[p]?.getD undef = .pointer (some ⟨g, 0, none⟩) := by simpa using hp
  have hv1 : tmps[u]?.getD undef = v := by simpa using hv
  have hv2 : tmps[u']?.getD undef = v' := by simpa using hv'
  simp [results, h, hp', hv1, hv2, asAddr, run_loadVar_row w g t ty cs fr d hg hu hd hi]
/-- what single answers -/
def OneP (enh : Bool) (l : List Int) (w : World) (e : Ending) (w' : World) : Prop := ∃ c en a n cap g, e = .returned (.tuple #[.agg (repC c en a n cap), .bool g, .bool (oneB enh l)]) ∧ Mod [] w w' ∧
  (oneB enh l = true → c = ((oneV enh l).code : Int) ∧ nums en = (oneV enh l).enh ∧ n = 1 ∧ CellsS w' a [(oneV enh l).text] ∧ g = (oneV enh l).more)
theorem one_fail {enh : Bool} {l : List Int} {w w' : World} {c : Int} {en : ByteArray} {a : Option Addr} {n cap : Nat} {g : Bool} (h : oneB enh l = false) (hm : Mod [] w w') : OneP enh l w (.returned (.tuple #[.agg (repC c en a n cap), .bool g, .bool false])) w' := by
  refine ⟨c, en, a, n, cap, g, ?_, hm, fun h2 => ?_⟩
  · rw [h]
  · rw [h] at h2; cases h2
theorem rrow {w : World} {g : Nat} {c c' : Int} {e e' : ByteArray} {a a' : Option Addr} {n n' cap cap' : Nat} (h : w.heap[g]? = some (.cells (repC c e a n cap) 24 (0, 0))) :
    (((w.setCell ⟨g, 0, none⟩ (.int .i64 c')).setCell ⟨g, 1, none⟩ (.string e')).setCell ⟨g, 2, none⟩ (.slice a' n' cap')).heap[g]? = some (.cells (repC c' e' a' n' cap') 24 (0, 0)) := by
  have := blk_set (blk_set (blk_set h 0 (.int .i64 c')) 1 (.string e')) 2 (.slice a' n' cap')
  simpa using this
theorem srow {w : World} {g : Nat} {c c' : Int} {e : ByteArray} {a a' : Option Addr} {n n' cap cap' : Nat} (h : w.heap[g]? = some (.cells (repC c e a n cap) 24 (0, 0))) :
    ((w.setCell ⟨g, 0, none⟩ (.int .i64 c')).setCell ⟨g, 2, none⟩ (.slice a' n' cap')).heap[g]? = some (.cells (repC c' e a' n' cap') 24 (0, 0)) := by
  have := blk_set (blk_set h 0 (.int .i64 c')) 2 (.slice a' n' cap')
  simpa using this
theorem new_text (w : World) (g : Nat) (hg : w.heap.size = g) (p : ByteArray) : CellsS (w.alloc (.cells #[.string p] 9)) (some ⟨g, 0, none⟩) [nums p] := by
  subst hg
  refine ⟨fun l hl => ?_, .inr ⟨_, 0, rfl, fun i hi => ?_⟩⟩
  · simp at hl; subst hl; exact nums_bytes p
  · have : i = 0 := by simpa using hi
    subst this
    rw [Nat.zero_add, blk_cell (heap_alloc_new w _) 0]
    simp [strOfNums_nums]
theorem keep3 {w : World} {g : Nat} {a b c : Value} (h0 : w.cell? ⟨g, 0, none⟩ = some a) (h1 : w.cell? ⟨g, 1, none⟩ = some b) (h2 : w.cell? ⟨g, 2, none⟩ = some c) :
    (((w.setCell ⟨g, 0, none⟩ a).setCell ⟨g, 1, none⟩ b).setCell ⟨g, 2, none⟩ c).cell? ⟨g, 0, none⟩ = some a ∧
    (((w.setCell ⟨g, 0, none⟩ a).setCell ⟨g, 1, none⟩ b).setCell ⟨g, 2, none⟩ c).cell? ⟨g, 1, none⟩ = some b ∧
    (((w.setCell ⟨g, 0, none⟩ a).setCell ⟨g, 1, none⟩ b).setCell ⟨g, 2, none⟩ c).cell? ⟨g, 2, none⟩ = some c := by
  have k0 := World.cell?_setCell_same w ⟨g, 0, none⟩ a h0
  have k1 := (World.cell?_setCell_other w ⟨g, 0, none⟩ ⟨g, 1, none⟩ a (by simp)).trans h1
  have k2 := (World.cell?_setCell_other w ⟨g, 0, none⟩ ⟨g, 2, none⟩ a (by simp)).trans h2
  have j0 := (World.cell?_setCell_other _ ⟨g, 1, none⟩ ⟨g, 0, none⟩ b (by simp)).trans k0
  have j1 := World.cell?_setCell_same _ ⟨g, 1, none⟩ b k1
  have j2 := (World.cell?_setCell_other _ ⟨g, 1, none⟩ ⟨g, 2, none⟩ b (by simp)).trans k2
  have i0 := (World.cell?_setCell_other _ ⟨g, 2, none⟩ ⟨g, 0, none⟩ c (by simp)).trans j0
  have i1 := (World.cell?_setCell_other _ ⟨g, 2, none⟩ ⟨g, 1, none⟩ c (by simp)).trans j1
  have i2 := World.cell?_setCell_same _ ⟨g, 2, none⟩ c j2
  exact ⟨i0, i1, i2⟩
/-- the reply stands in its block, its text in another -/
structure Sgl (w : World) (r : Nat) (c : Int) (e : ByteArray) (t : List Int) (g : Nat) (W : World) : Prop where
  row : W.heap[r]? = some (.cells (repC c e (some ⟨g, 0, none⟩) 1 1) 24 (0, 0))
  txt : CellsS W (some ⟨g, 0, none⟩) [t]
  mod : Mod [r] w W
  ne : g ≠ r
theorem Sgl.quiet {w W W' : World} {r g : Nat} {c : Int} {e : ByteArray} {t : List Int} (h : Sgl w r c e t g W) (hm : Mod [] W W') : Sgl w r c e t g W' := ⟨hm.row h.row (by simp), h.txt.quiet hm, h.mod.trans (hm.mono (by simp)), h.ne⟩
theorem Sgl.drew {w W : World} {r g : Nat} {c : Int} {e : ByteArray} {t : List Int} (h : Sgl w r c e t g W) : Sgl w r c e t g W.drew := h.quiet (Mod.refl [] W).drew
section
variable {w W : World} {r g : Nat} {c : Int} {e : ByteArray} {t : List Int}
theorem Sgl.keep (h : Sgl w r c e t g W) :
    (((W.setCell ⟨r, 0, none⟩ (.int .i64 c)).setCell ⟨r, 1, none⟩ (.string e)).setCell ⟨r, 2, none⟩ (.slice (some ⟨g, 0, none⟩) 1 1)).cell? ⟨r, 0, none⟩ = some (.int .i64 c) ∧
    (((W.setCell ⟨r, 0, none⟩ (.int .i64 c)).setCell ⟨r, 1, none⟩ (.string e)).setCell ⟨r, 2, none⟩ (.slice (some ⟨g, 0, none⟩) 1 1)).cell? ⟨r, 1, none⟩ = some (.string e) ∧
    (((W.setCell ⟨r, 0, none⟩ (.int .i64 c)).setCell ⟨r, 1, none⟩ (.string e)).setCell ⟨r, 2, none⟩ (.slice (some ⟨g, 0, none⟩) 1 1)).cell? ⟨r, 2, none⟩ = some (.slice (some ⟨g, 0, none⟩) 1 1) :=
  keep3 (blk_cell h.row 0) (blk_cell h.row 1) (blk_cell h.row 2)
theorem Sgl.fin_row (h : Sgl w r c e t g W) : (((W.setCell ⟨r, 0, none⟩ (.int .i64 c)).setCell ⟨r, 1, none⟩ (.string e)).setCell ⟨r, 2, none⟩ (.slice (some ⟨g, 0, none⟩) 1 1)).heap[r]? = some (.cells (repC c e (some ⟨g, 0, none⟩) 1 1) 24 (0, 0)) := rrow h.row
theorem set3_mod (W : World) (r : Nat) (a b c : Value) : Mod [r] W (((W.setCell ⟨r, 0, none⟩ a).setCell ⟨r, 1, none⟩ b).setCell ⟨r, 2, none⟩ c) :=
  (((Mod.refl [r] W).setCell (Or.inl (by simp)) _).setCell (Or.inl (by simp)) _).setCell (Or.inl (by simp)) _
theorem Sgl.fin_txt (h : Sgl w r c e t g W) (a b d : Value) : CellsS (((W.setCell ⟨r, 0, none⟩ a).setCell ⟨r, 1, none⟩ b).setCell ⟨r, 2, none⟩ d) (some ⟨g, 0, none⟩) [t] :=
  h.txt.mod (set3_mod W r a b d) (by intro x hx; cases hx; simpa using h.ne)
theorem Sgl.fin_mod (h : Sgl w w.heap.size c e t g W) {a b d : Value} : Mod [] w (((W.setCell ⟨w.heap.size, 0, none⟩ a).setCell ⟨w.heap.size, 1, none⟩ b).setCell ⟨w.heap.size, 2, none⟩ d) :=
  (h.mod.trans (set3_mod W _ a b d)).mono (by intro x hx; simp at hx; omega)
end
theorem one_good {enh : Bool} {l t : List Int} {w W : World} {c : Int} {en : ByteArray} {g : Nat} {m : Bool} {x y z : Value} (h : oneB enh l = true) (hc : c = ((oneV enh l).code : Int)) (he : nums en = (oneV enh l).enh) (ht : t = (oneV enh l).text) (hm : m = (oneV enh l).more) (hS : Sgl w w.heap.size c en t g W) :
    OneP enh l w (.returned (.tuple #[.agg (repC c en (some ⟨g, 0, none⟩) 1 1), .bool m, .bool true])) (((W.setCell ⟨w.heap.size, 0, none⟩ x).setCell ⟨w.heap.size, 1, none⟩ y).setCell ⟨w.heap.size, 2, none⟩ z) := by
  refine ⟨c, en, some ⟨g, 0, none⟩, 1, 1, m, ?_, hS.fin_mod, fun _ => ⟨hc, he, rfl, ?_, hm⟩⟩
  · rw [h]
  · rw [← ht]; exact hS.fin_txt x y z
theorem erow {w : World} {g : Nat} {c : Int} {e e' : ByteArray} {a a' : Option Addr} {n n' cap cap' : Nat} (h : w.heap[g]? = some (.cells (repC c e a n cap) 24 (0, 0))) :
    ((w.setCell ⟨g, 1, none⟩ (.string e')).setCell ⟨g, 2, none⟩ (.slice a' n' cap')).heap[g]? = some (.cells (repC c e' a' n' cap') 24 (0, 0)) := by
  have := blk_set (blk_set h 1 (.string e')) 2 (.slice a' n' cap')
  simpa using this
set_option maxRecDepth 100000 in
set_option maxHeartbeats 4000000 in
theorem single_any (s : ByteArray) (enh : Bool) (w : World) (hE : Env w) (hs : s.size ≤ 100000) : Calls Tryd.prog 30 #[.string s, .bool enh] w (OneP enh (nums s) w) := by
  have HL := Lib.hid (nums_length s)
  have hm0 : Mod [] w (w.alloc (.cells (repC 0 ByteArray.empty none 0 0) 24)) := (Mod.refl [] w).alloc _
  have HM0 := Lib.hid hm0
  have HN0 := Lib.hid (heap_alloc_new w (.cells (repC 0 ByteArray.empty none 0 0) 24))
  have HE := Lib.hid (fun (W : World) (hm : Mod [] w W) => hE.quiet hm)
  clear hm0 hE
  by_cases h4 : s.size < 4
  · have h4' : (s.size : Int) ≤ 3 := by omega
    have HF := Lib.hid (one_short (enh := enh) (l := nums s) (by rw [HL.out]; exact h4))
    clear h4
    go_enter Tryd.func30, Tryd.ntmps30
    go_wp2_with fail
    refine bodyPost_ret (v := .tuple #[.agg (repC 0 ByteArray.empty none 0 0), .bool false, .bool false]) (res_cell_tmp2_row rfl _ _ w.heap.size 24 _ (0, 0) _ rfl HN0.out Tryd.underlying24 rfl rep_size _ _ rfl rfl) rfl (one_fail HF.out HM0.out)
  have h4' : (3 : Int) < (s.size : Int) := by omega
  have h3s : 3 < s.size := by omega
  have hx := str_at s 3 h3s
  generalize hb : ((s[3].toNat : Nat) : Int) = b at *
  have HX := Lib.hid hx
  clear hx h4
  by_cases hsg : b = 45 ∨ b = 32
  case neg =>
    have e1 : (b != 45) = true := by rw [bne_iff_ne]; omega
    have e2 : (b != 32) = true := by rw [bne_iff_ne]; omega
    have HF := Lib.hid (one_sign (enh := enh) (l := nums s) (by rw [← HX.out]; omega) (by rw [← HX.out]; omega))
    clear hsg
    go_enter Tryd.func30, Tryd.ntmps30
    go_wp2_with fail
    refine bodyPost_ret (v := .tuple #[.agg (repC 0 ByteArray.empty none 0 0), .bool false, .bool false]) (res_cell_tmp2_row rfl _ _ w.heap.size 24 _ (0, 0) _ rfl HN0.out Tryd.underlying24 rfl rep_size _ _ rfl rfl) rfl (one_fail HF.out HM0.out)
  case pos =>
  have HSg := Lib.hid hsg
  have hsq : (b != 45 && b != 32) = false := by rcases hsg with h | h <;> rw [h] <;> rfl
  obtain ⟨D, hD⟩ : ∃ D, s.extract 0 3 = D := ⟨_, rfl⟩
  obtain ⟨T, hT⟩ : ∃ T, s.extract 4 s.size = T := ⟨_, rfl⟩
  have h3 : ∀ W, (Instr.slice 9 (.string s) none (some (.int .i64 3)) none).run Tryd.prog W = .ok (.string D) W := slice_to s 3 (by omega) D hD
  have hf4 : ∀ W, (Instr.slice 9 (.string s) (some (.int .i64 4)) none none).run Tryd.prog W = .ok (.string T) W := slice_from s 4 (by omega) T hT
  have HDn := Lib.hid (show nums D = (nums s).take 3 by rw [← hD, nums_extract]; simp)
  have HTn := Lib.hid (show nums T = (nums s).drop 4 by rw [← hT, nums_extract, List.take_of_length_le (by rw [List.length_drop, HL.out]; omega)])
  have hDs : D.size ≤ 100000 := by rw [← nums_length, HDn.out, List.length_take, HL.out]; omega
  have hTs : T.size ≤ 100000 := by rw [← nums_length, HTn.out, List.length_drop, HL.out]; omega
  have HTs := Lib.hid hTs
  have HNum := Lib.hid (number_any D _ (HE.out _ HM0.out) hDs)
  unfold NumP at HNum
  have HS4 := Lib.hid (show 4 ≤ (nums s).length by rw [HL.out]; omega)
  have HS3 := Lib.hid (show (nums s).getD 3 0 = 45 ∨ (nums s).getD 3 0 = 32 by rw [← HX.out]; exact hsg)
  clear hD hT hDs hTs hsg
  have mixed : Tryd.prog.follows Departure.mixedOrders = true := by kernel_rfl
  have HE2 := Lib.hid (fun (W : World) (hm : Mod [w.heap.size] w W) => (HE.out w (Mod.refl _ _)).mod hm (by
    have := (HE.out w (Mod.refl _ _)).lt
    intro x hx; simp at hx; omega))
  rcases (show b = 45 ∨ b = 32 from HSg.out) with rfl | rfl
  · cases enh
    · cases hv : numP ((nums s).take 3) with
      | none =>
        have HF := Lib.hid (one_nonum (enh := false) HS4.out hv)
        rw [HDn.out, hv] at HNum
        clear hv
        go_enter Tryd.func30, Tryd.ntmps30
        go_wp2_with (go_at_call 33; refine HNum.out.mono ?_; rintro e w1 ⟨rfl, hm1⟩; have HM1 := Lib.hid (HM0.out.trans hm1); have HR1 := Lib.hid (hm1.row HN0.out (by simp)); have k0 := blk_cell HR1.out 0; have z0 := blk_free HR1.out 0; have k1 := blk_cell HR1.out 1; have z1 := blk_free HR1.out 1; have k2 := blk_cell HR1.out 2; have z2 := blk_free HR1.out 2; have hlt0 := blk_lt HR1.out; clear hm1; unfold numV)
        have hs4 : Sgl w w.heap.size 0 ByteArray.empty (nums T) w1.heap.size (((w1.setCell ⟨w.heap.size, 0, none⟩ (.int .i64 0)).setCell ⟨w.heap.size, 2, none⟩ (.slice (some ⟨w1.heap.size, 0, none⟩) 1 1)).alloc (.cells #[.string T] 9)) :=
          ⟨((Mod.refl [] _).alloc _).row (srow HR1.out) (by simp), new_text _ _ (by simp) T, (((HM1.out.mono (by simp)).setCell (Or.inl (by simp)) _).setCell (Or.inl (by simp)) _).alloc _, by omega⟩
        generalize ((w1.setCell ⟨w.heap.size, 0, none⟩ (.int .i64 0)).setCell ⟨w.heap.size, 2, none⟩ (.slice (some ⟨w1.heap.size, 0, none⟩) 1 1)).alloc (.cells #[.string T] 9) = w4 at *
        generalize w1.heap.size = g at *
        have HS5 := Lib.hid hs4
        clear k0 k1 k2 z0 z1 z2 hs4
        have k0 := blk_cell HS5.out.row 0
        have k1 := blk_cell HS5.out.row 1
        have k2 := blk_cell HS5.out.row 2
        have z0 := blk_free HS5.out.row 0
        have z1 := blk_free HS5.out.row 1
        have z2 := blk_free HS5.out.row 2
        refine wp_region_held_drew (S := (fun W => W.cell? ⟨w.heap.size, 0, none⟩ = some (.int .i64 0) ∧ W.cell? ⟨w.heap.size, 1, none⟩ = some (.string ByteArray.empty) ∧ W.cell? ⟨w.heap.size, 2, none⟩ = some (.slice (some ⟨g, 0, none⟩) 1 1))) (by kernel_rfl) (⟨k0, k1, k2⟩) (fun hHeld => ?_)
        refine wpAnyH_take (i := 0) (oi := ?_) (v := ?_) ?_ (by kernel_rfl) (by kernel_rfl) (by kernel_rfl) ?_ (Or.inl ⟨?_, ?_⟩) hHeld ?_
        rotate_left 2
        · simp only [List.getElem?_toArray, List.getElem?_cons_succ, List.getElem?_cons_zero]; rfl
        · exact fun _ _ _ h => h
        · rfl
        · intro w hSw; (try dsimp only at hSw); go_simp; try (with_reducible rfl)
        try simp only [Act.put, List.setIfInBounds_toArray, List.set_cons_zero, List.set_cons_succ]
        refine wpAnyH_take (i := 1) (oi := ?_) (v := ?_) ?_ (by kernel_rfl) (by kernel_rfl) (by kernel_rfl) ?_ (Or.inl ⟨?_, ?_⟩) hHeld ?_
        rotate_left 2
        · simp only [List.getElem?_toArray, List.getElem?_cons_succ, List.getElem?_cons_zero]; rfl
        · exact fun _ _ _ h => h
        · rfl
        · intro w hSw; (try dsimp only at hSw); go_simp; try (with_reducible rfl)
        try simp only [Act.put, List.setIfInBounds_toArray, List.set_cons_zero, List.set_cons_succ]
        refine wpAnyH_take (i := 2) (oi := ?_) (v := ?_) ?_ (by kernel_rfl) (by kernel_rfl) (by kernel_rfl) ?_ (Or.inl ⟨?_, ?_⟩) hHeld ?_
        rotate_left 2
        · simp only [List.getElem?_toArray, List.getElem?_cons_succ, List.getElem?_cons_zero]; rfl
        · exact fun _ _ _ h => h
        · rfl
        · intro w hSw; (try dsimp only at hSw); go_simp; try (with_reducible rfl)
        try simp only [Act.put, List.setIfInBounds_toArray, List.set_cons_zero, List.set_cons_succ]
        refine wpAnyH_take (i := 3) (oi := ?_) (v := ?_) ?_ (by kernel_rfl) (by kernel_rfl) (by kernel_rfl) ?_ (Or.inl ⟨?_, ?_⟩) hHeld ?_
        rotate_left 2
        · simp only [List.getElem?_toArray, List.getElem?_cons_succ, List.getElem?_cons_zero]; rfl
        · exact fun _ _ _ h => h
        · rfl
        · intro w hSw; (try dsimp only at hSw); go_simp; try (with_reducible rfl)
        try simp only [Act.put, List.setIfInBounds_toArray, List.set_cons_zero, List.set_cons_succ]
        refine wpAnyH_take (i := 4) (oi := ?_) (v := ?_) ?_ (by kernel_rfl) (by kernel_rfl) (by kernel_rfl) ?_ (Or.inl ⟨?_, ?_⟩) hHeld ?_
        rotate_left 2
        · simp only [List.getElem?_toArray, List.getElem?_cons_succ, List.getElem?_cons_zero]; rfl
        · exact fun _ _ _ h => h
        · rfl
        · intro w hSw; (try dsimp only at hSw); go_simp; try (with_reducible rfl)
        try simp only [Act.put, List.setIfInBounds_toArray, List.set_cons_zero, List.set_cons_succ]
        refine wpAnyH_take (i := 5) (oi := ?_) (v := ?_) ?_ (by kernel_rfl) (by kernel_rfl) (by kernel_rfl) ?_ (Or.inl ⟨?_, ?_⟩) hHeld ?_
        rotate_left 2
        · simp only [List.getElem?_toArray, List.getElem?_cons_succ, List.getElem?_cons_zero]; rfl
        · exact fun _ _ _ h => h
        · rfl
        · intro w hSw; (try dsimp only at hSw); go_simp; try (with_reducible rfl)
        try simp only [Act.put, List.setIfInBounds_toArray, List.set_cons_zero, List.set_cons_succ]
        refine wpAnyH_take (i := 6) (oi := ?_) (v := ?_) ?_ (by kernel_rfl) (by kernel_rfl) (by kernel_rfl) ?_ (Or.inr ⟨?_, ?_⟩) hHeld ?_
        rotate_left 2
        · simp only [List.getElem?_toArray, List.getElem?_cons_succ, List.getElem?_cons_zero]; rfl
        · exact fun _ _ _ h => h
        · kernel_rfl
        · rfl
        try simp only [Act.put, List.setIfInBounds_toArray, List.set_cons_zero, List.set_cons_succ]
        refine wpAnyH_take (i := 7) (oi := ?_) (v := ?_) ?_ (by kernel_rfl) (by kernel_rfl) (by kernel_rfl) ?_ (Or.inr ⟨?_, ?_⟩) hHeld ?_
        rotate_left 2
        · simp only [List.getElem?_toArray, List.getElem?_cons_succ, List.getElem?_cons_zero]; rfl
        · exact fun _ _ _ h => h
        · kernel_rfl
        · rfl
        try simp only [Act.put, List.setIfInBounds_toArray, List.set_cons_zero, List.set_cons_succ]
        refine wpAnyH_take (i := 8) (oi := ?_) (v := ?_) ?_ (by kernel_rfl) (by kernel_rfl) (by kernel_rfl) ?_ (Or.inl ⟨?_, ?_⟩) hHeld ?_
        rotate_left 2
        · simp only [List.getElem?_toArray, List.getElem?_cons_succ, List.getElem?_cons_zero]; rfl
        · exact fun _ _ _ h => h
        · rfl
        · intro w hSw; (try dsimp only at hSw); go_simp; try (with_reducible rfl)
        try simp only [Act.put, List.setIfInBounds_toArray, List.set_cons_zero, List.set_cons_succ]
        refine wpAnyH_ready (rs := [9]) (by kernel_rfl) (by simp) ?_
        refine AllReadyH.cons (o := ?_) ?_ (fun K hK => ?_) ?_
        rotate_left
        · simp only [List.getElem?_toArray, List.getElem?_cons_succ, List.getElem?_cons_zero]; rfl
        · go_simp
          refine hK.out _ _ (HS5.out.drew.keep) ?_
          clear hK K hHeld
          intro hHeld
          try simp only [Act.put, List.setIfInBounds_toArray, List.set_cons_zero, List.set_cons_succ]
          refine wpAnyH_take (i := 10) (oi := ?_) (v := ?_) ?_ (by kernel_rfl) (by kernel_rfl) (by kernel_rfl) ?_ (Or.inl ⟨?_, ?_⟩) hHeld ?_
          rotate_left 2
          · simp only [List.getElem?_toArray, List.getElem?_cons_succ, List.getElem?_cons_zero]; rfl
          · exact fun _ _ _ h => h
          · rfl
          · intro w hSw; (try dsimp only at hSw); go_simp; try (with_reducible rfl)
          try simp only [Act.put, List.setIfInBounds_toArray, List.set_cons_zero, List.set_cons_succ]
          refine wpAnyH_take (i := 11) (oi := ?_) (v := ?_) ?_ (by kernel_rfl) (by kernel_rfl) (by kernel_rfl) ?_ (Or.inl ⟨?_, ?_⟩) hHeld ?_
          rotate_left 2
          · simp only [List.getElem?_toArray, List.getElem?_cons_succ, List.getElem?_cons_zero]; rfl
          · exact fun _ _ _ h => h
          · rfl
          · intro w hSw; (try dsimp only at hSw); go_simp; try (with_reducible rfl)
          try simp only [Act.put, List.setIfInBounds_toArray, List.set_cons_zero, List.set_cons_succ]
          refine wpAnyH_done (by kernel_rfl) ?_ _
          clear hHeld
          go_wp2_with fail
          refine bodyPost_ret (v := .tuple #[.agg (repC 0 ByteArray.empty (some ⟨g, 0, none⟩) 1 1), .bool true, .bool false]) (res_cell_tmp2_row rfl _ _ w.heap.size 24 _ (0, 0) _ rfl HS5.out.drew.fin_row Tryd.underlying24 rfl rep_size _ _ rfl rfl) rfl (one_fail HF.out HS5.out.drew.fin_mod)
        exact AllReadyH.nil
      | some v =>
        have hone := one_plain HS4.out HS3.out hv
        have HV := Lib.hid hone.2
        have HEsz := Lib.hid (show ByteArray.empty.size ≤ 100000 by decide)
        have HTsz := Lib.hid (show (nums T).length ≤ 100000 by rw [nums_length]; exact HTs.out)
        rw [HDn.out, hv] at HNum
        clear hv
        cases hg : goodB ⟨(v : Int), [], [(nums s).drop 4]⟩
        · have HGd := Lib.hid (show goodB ⟨(v : Int), nums ByteArray.empty, [nums T]⟩ = false by rw [HTn.out]; exact hg)
          have HF := Lib.hid (hone.1.trans hg)
          clear hg hone
          go_enter Tryd.func30, Tryd.ntmps30
          go_wp2_with (go_at_call 33; refine HNum.out.mono ?_; rintro e w1 ⟨rfl, hm1⟩; have HM1 := Lib.hid (HM0.out.trans hm1); have HR1 := Lib.hid (hm1.row HN0.out (by simp)); have k0 := blk_cell HR1.out 0; have z0 := blk_free HR1.out 0; have k1 := blk_cell HR1.out 1; have z1 := blk_free HR1.out 1; have k2 := blk_cell HR1.out 2; have z2 := blk_free HR1.out 2; have hlt0 := blk_lt HR1.out; clear hm1; unfold numV)
          have hs4 : Sgl w w.heap.size v ByteArray.empty (nums T) w1.heap.size (((w1.setCell ⟨w.heap.size, 0, none⟩ (.int .i64 v)).setCell ⟨w.heap.size, 2, none⟩ (.slice (some ⟨w1.heap.size, 0, none⟩) 1 1)).alloc (.cells #[.string T] 9)) :=
            ⟨((Mod.refl [] _).alloc _).row (srow HR1.out) (by simp), new_text _ _ (by simp) T, (((HM1.out.mono (by simp)).setCell (Or.inl (by simp)) _).setCell (Or.inl (by simp)) _).alloc _, by omega⟩
          generalize ((w1.setCell ⟨w.heap.size, 0, none⟩ (.int .i64 v)).setCell ⟨w.heap.size, 2, none⟩ (.slice (some ⟨w1.heap.size, 0, none⟩) 1 1)).alloc (.cells #[.string T] 9) = w4 at *
          generalize w1.heap.size = g at *
          have HS5 := Lib.hid hs4
          clear k0 k1 k2 z0 z1 z2 hs4
          have k0 := blk_cell HS5.out.row 0
          have k1 := blk_cell HS5.out.row 1
          have k2 := blk_cell HS5.out.row 2
          have z0 := blk_free HS5.out.row 0
          have z1 := blk_free HS5.out.row 1
          have z2 := blk_free HS5.out.row 2
          refine wp_region_held_drew (S := (fun W => W.cell? ⟨w.heap.size, 0, none⟩ = some (.int .i64 v) ∧ W.cell? ⟨w.heap.size, 1, none⟩ = some (.string ByteArray.empty) ∧ W.cell? ⟨w.heap.size, 2, none⟩ = some (.slice (some ⟨g, 0, none⟩) 1 1))) (by kernel_rfl) (⟨k0, k1, k2⟩) (fun hHeld => ?_)
          refine wpAnyH_take (i := 0) (oi := ?_) (v := ?_) ?_ (by kernel_rfl) (by kernel_rfl) (by kernel_rfl) ?_ (Or.inl ⟨?_, ?_⟩) hHeld ?_
          rotate_left 2
          · simp only [List.getElem?_toArray, List.getElem?_cons_succ, List.getElem?_cons_zero]; rfl
          · exact fun _ _ _ h => h
          · rfl
          · intro w hSw; (try dsimp only at hSw); go_simp; try (with_reducible rfl)
          try simp only [Act.put, List.setIfInBounds_toArray, List.set_cons_zero, List.set_cons_succ]
          refine wpAnyH_take (i := 1) (oi := ?_) (v := ?_) ?_ (by kernel_rfl) (by kernel_rfl) (by kernel_rfl) ?_ (Or.inl ⟨?_, ?_⟩) hHeld ?_
          rotate_left 2
          · simp only [List.getElem?_toArray, List.getElem?_cons_succ, List.getElem?_cons_zero]; rfl
          · exact fun _ _ _ h => h
          · rfl
          · intro w hSw; (try dsimp only at hSw); go_simp; try (with_reducible rfl)
          try simp only [Act.put, List.setIfInBounds_toArray, List.set_cons_zero, List.set_cons_succ]
          refine wpAnyH_take (i := 2) (oi := ?_) (v := ?_) ?_ (by kernel_rfl) (by kernel_rfl) (by kernel_rfl) ?_ (Or.inl ⟨?_, ?_⟩) hHeld ?_
          rotate_left 2
          · simp only [List.getElem?_toArray, List.getElem?_cons_succ, List.getElem?_cons_zero]; rfl
          · exact fun _ _ _ h => h
          · rfl
          · intro w hSw; (try dsimp only at hSw); go_simp; try (with_reducible rfl)
          try simp only [Act.put, List.setIfInBounds_toArray, List.set_cons_zero, List.set_cons_succ]
          refine wpAnyH_take (i := 3) (oi := ?_) (v := ?_) ?_ (by kernel_rfl) (by kernel_rfl) (by kernel_rfl) ?_ (Or.inl ⟨?_, ?_⟩) hHeld ?_
          rotate_left 2
          · simp only [List.getElem?_toArray, List.getElem?_cons_succ, List.getElem?_cons_zero]; rfl
          · exact fun _ _ _ h => h
          · rfl
          · intro w hSw; (try dsimp only at hSw); go_simp; try (with_reducible rfl)
          try simp only [Act.put, List.setIfInBounds_toArray, List.set_cons_zero, List.set_cons_succ]
          refine wpAnyH_take (i := 4) (oi := ?_) (v := ?_) ?_ (by kernel_rfl) (by kernel_rfl) (by kernel_rfl) ?_ (Or.inl ⟨?_, ?_⟩) hHeld ?_
          rotate_left 2
          · simp only [List.getElem?_toArray, List.getElem?_cons_succ, List.getElem?_cons_zero]; rfl
          · exact fun _ _ _ h => h
          · rfl
          · intro w hSw; (try dsimp only at hSw); go_simp; try (with_reducible rfl)
          try simp only [Act.put, List.setIfInBounds_toArray, List.set_cons_zero, List.set_cons_succ]
          refine wpAnyH_take (i := 5) (oi := ?_) (v := ?_) ?_ (by kernel_rfl) (by kernel_rfl) (by kernel_rfl) ?_ (Or.inl ⟨?_, ?_⟩) hHeld ?_
          rotate_left 2
          · simp only [List.getElem?_toArray, List.getElem?_cons_succ, List.getElem?_cons_zero]; rfl
          · exact fun _ _ _ h => h
          · rfl
          · intro w hSw; (try dsimp only at hSw); go_simp; try (with_reducible rfl)
          try simp only [Act.put, List.setIfInBounds_toArray, List.set_cons_zero, List.set_cons_succ]
          refine wpAnyH_take (i := 6) (oi := ?_) (v := ?_) ?_ (by kernel_rfl) (by kernel_rfl) (by kernel_rfl) ?_ (Or.inl ⟨?_, ?_⟩) hHeld ?_
          rotate_left 2
          · simp only [List.getElem?_toArray, List.getElem?_cons_succ, List.getElem?_cons_zero]; rfl
          · exact fun _ _ _ h => h
          · rfl
          · intro w hSw; (try dsimp only at hSw); go_simp; try (with_reducible rfl)
          try simp only [Act.put, List.setIfInBounds_toArray, List.set_cons_zero, List.set_cons_succ]
          refine wpAnyH_ready (rs := [7]) (by kernel_rfl) (by simp) ?_
          refine AllReadyH.cons (o := ?_) ?_ (fun K hK => ?_) ?_
          rotate_left
          · simp only [List.getElem?_toArray, List.getElem?_cons_succ, List.getElem?_cons_zero]; rfl
          · go_simp
            refine (good_any _ (HE2.out _ HS5.out.drew.mod) v ByteArray.empty (some ⟨g, 0, none⟩) 1 1 [nums T] HS5.out.drew.txt rfl HEsz.out (by intro l hl; simp at hl; subst hl; exact HTsz.out) (by simp)).mono ?_
            rintro e w9 ⟨rfl, hm9⟩
            rw [HGd.out]
            have HS9 := Lib.hid (HS5.out.drew.quiet hm9)
            clear k0 k1 k2 z0 z1 z2 hm9
            have k0 := blk_cell HS9.out.row 0
            have k1 := blk_cell HS9.out.row 1
            have k2 := blk_cell HS9.out.row 2
            have z0 := blk_free HS9.out.row 0
            have z1 := blk_free HS9.out.row 1
            have z2 := blk_free HS9.out.row 2
            go_wp2_with fail
            refine hK.out _ _ (⟨k0, k1, k2⟩) ?_
            clear hK K hHeld
            intro hHeld
            try simp only [Act.put, List.setIfInBounds_toArray, List.set_cons_zero, List.set_cons_succ]
            refine wpAnyH_take (i := 8) (oi := ?_) (v := ?_) ?_ (by kernel_rfl) (by kernel_rfl) (by kernel_rfl) ?_ (Or.inl ⟨?_, ?_⟩) hHeld ?_
            rotate_left 2
            · simp only [List.getElem?_toArray, List.getElem?_cons_succ, List.getElem?_cons_zero]; rfl
            · exact fun _ _ _ h => h
            · rfl
            · intro w hSw; (try dsimp only at hSw); go_simp; try (with_reducible rfl)
            try simp only [Act.put, List.setIfInBounds_toArray, List.set_cons_zero, List.set_cons_succ]
            refine wpAnyH_ready (rs := [9]) (by kernel_rfl) (by simp) ?_
            refine AllReadyH.cons (o := ?_) ?_ (fun K hK => ?_) ?_
            rotate_left
            · simp only [List.getElem?_toArray, List.getElem?_cons_succ, List.getElem?_cons_zero]; rfl
            · go_simp
              refine hK.out _ _ (HS9.out.keep) ?_
              clear hK K hHeld
              intro hHeld
              try simp only [Act.put, List.setIfInBounds_toArray, List.set_cons_zero, List.set_cons_succ]
              refine wpAnyH_take (i := 10) (oi := ?_) (v := ?_) ?_ (by kernel_rfl) (by kernel_rfl) (by kernel_rfl) ?_ (Or.inl ⟨?_, ?_⟩) hHeld ?_
              rotate_left 2
              · simp only [List.getElem?_toArray, List.getElem?_cons_succ, List.getElem?_cons_zero]; rfl
              · exact fun _ _ _ h => h
              · rfl
              · intro w hSw; (try dsimp only at hSw); go_simp; try (with_reducible rfl)
              try simp only [Act.put, List.setIfInBounds_toArray, List.set_cons_zero, List.set_cons_succ]
              refine wpAnyH_take (i := 11) (oi := ?_) (v := ?_) ?_ (by kernel_rfl) (by kernel_rfl) (by kernel_rfl) ?_ (Or.inl ⟨?_, ?_⟩) hHeld ?_
              rotate_left 2
              · simp only [List.getElem?_toArray, List.getElem?_cons_succ, List.getElem?_cons_zero]; rfl
              · exact fun _ _ _ h => h
              · rfl
              · intro w hSw; (try dsimp only at hSw); go_simp; try (with_reducible rfl)
              try simp only [Act.put, List.setIfInBounds_toArray, List.set_cons_zero, List.set_cons_succ]
              refine wpAnyH_done (by kernel_rfl) ?_ _
              clear hHeld
              go_wp2_with fail
              refine bodyPost_ret (v := .tuple #[.agg (repC v ByteArray.empty (some ⟨g, 0, none⟩) 1 1), .bool true, .bool false]) (res_cell_tmp2_row rfl _ _ w.heap.size 24 _ (0, 0) _ rfl HS9.out.fin_row Tryd.underlying24 rfl rep_size _ _ rfl rfl) rfl (one_fail HF.out HS9.out.fin_mod)
            exact AllReadyH.nil
          exact AllReadyH.nil
        · have HGd := Lib.hid (show goodB ⟨(v : Int), nums ByteArray.empty, [nums T]⟩ = true by rw [HTn.out]; exact hg)
          have HF := Lib.hid (hone.1.trans hg)
          clear hg hone
          go_enter Tryd.func30, Tryd.ntmps30
          go_wp2_with (go_at_call 33; refine HNum.out.mono ?_; rintro e w1 ⟨rfl, hm1⟩; have HM1 := Lib.hid (HM0.out.trans hm1); have HR1 := Lib.hid (hm1.row HN0.out (by simp)); have k0 := blk_cell HR1.out 0; have z0 := blk_free HR1.out 0; have k1 := blk_cell HR1.out 1; have z1 := blk_free HR1.out 1; have k2 := blk_cell HR1.out 2; have z2 := blk_free HR1.out 2; have hlt0 := blk_lt HR1.out; clear hm1; unfold numV)
          have hs4 : Sgl w w.heap.size v ByteArray.empty (nums T) w1.heap.size (((w1.setCell ⟨w.heap.size, 0, none⟩ (.int .i64 v)).setCell ⟨w.heap.size, 2, none⟩ (.slice (some ⟨w1.heap.size, 0, none⟩) 1 1)).alloc (.cells #[.string T] 9)) :=
            ⟨((Mod.refl [] _).alloc _).row (srow HR1.out) (by simp), new_text _ _ (by simp) T, (((HM1.out.mono (by simp)).setCell (Or.inl (by simp)) _).setCell (Or.inl (by simp)) _).alloc _, by omega⟩
          generalize ((w1.setCell ⟨w.heap.size, 0, none⟩ (.int .i64 v)).setCell ⟨w.heap.size, 2, none⟩ (.slice (some ⟨w1.heap.size, 0, none⟩) 1 1)).alloc (.cells #[.string T] 9) = w4 at *
          generalize w1.heap.size = g at *
          have HS5 := Lib.hid hs4
          clear k0 k1 k2 z0 z1 z2 hs4
          have k0 := blk_cell HS5.out.row 0
          have k1 := blk_cell HS5.out.row 1
          have k2 := blk_cell HS5.out.row 2
          have z0 := blk_free HS5.out.row 0
          have z1 := blk_free HS5.out.row 1
          have z2 := blk_free HS5.out.row 2
          refine wp_region_held_drew (S := (fun W => W.cell? ⟨w.heap.size, 0, none⟩ = some (.int .i64 v) ∧ W.cell? ⟨w.heap.size, 1, none⟩ = some (.string ByteArray.empty) ∧ W.cell? ⟨w.heap.size, 2, none⟩ = some (.slice (some ⟨g, 0, none⟩) 1 1))) (by kernel_rfl) (⟨k0, k1, k2⟩) (fun hHeld => ?_)
          refine wpAnyH_take (i := 0) (oi := ?_) (v := ?_) ?_ (by kernel_rfl) (by kernel_rfl) (by kernel_rfl) ?_ (Or.inl ⟨?_, ?_⟩) hHeld ?_
          rotate_left 2
          · simp only [List.getElem?_toArray, List.getElem?_cons_succ, List.getElem?_cons_zero]; rfl
          · exact fun _ _ _ h => h
          · rfl
          · intro w hSw; (try dsimp only at hSw); go_simp; try (with_reducible rfl)
          try simp only [Act.put, List.setIfInBounds_toArray, List.set_cons_zero, List.set_cons_succ]
          refine wpAnyH_take (i := 1) (oi := ?_) (v := ?_) ?_ (by kernel_rfl) (by kernel_rfl) (by kernel_rfl) ?_ (Or.inl ⟨?_, ?_⟩) hHeld ?_
          rotate_left 2
          · simp only [List.getElem?_toArray, List.getElem?_cons_succ, List.getElem?_cons_zero]; rfl
          · exact fun _ _ _ h => h
          · rfl
          · intro w hSw; (try dsimp only at hSw); go_simp; try (with_reducible rfl)
          try simp only [Act.put, List.setIfInBounds_toArray, List.set_cons_zero, List.set_cons_succ]
          refine wpAnyH_take (i := 2) (oi := ?_) (v := ?_) ?_ (by kernel_rfl) (by kernel_rfl) (by kernel_rfl) ?_ (Or.inl ⟨?_, ?_⟩) hHeld ?_
          rotate_left 2
          · simp only [List.getElem?_toArray, List.getElem?_cons_succ, List.getElem?_cons_zero]; rfl
          · exact fun _ _ _ h => h
          · rfl
          · intro w hSw; (try dsimp only at hSw); go_simp; try (with_reducible rfl)
          try simp only [Act.put, List.setIfInBounds_toArray, List.set_cons_zero, List.set_cons_succ]
          refine wpAnyH_take (i := 3) (oi := ?_) (v := ?_) ?_ (by kernel_rfl) (by kernel_rfl) (by kernel_rfl) ?_ (Or.inl ⟨?_, ?_⟩) hHeld ?_
          rotate_left 2
          · simp only [List.getElem?_toArray, List.getElem?_cons_succ, List.getElem?_cons_zero]; rfl
          · exact fun _ _ _ h => h
          · rfl
          · intro w hSw; (try dsimp only at hSw); go_simp; try (with_reducible rfl)
          try simp only [Act.put, List.setIfInBounds_toArray, List.set_cons_zero, List.set_cons_succ]
          refine wpAnyH_take (i := 4) (oi := ?_) (v := ?_) ?_ (by kernel_rfl) (by kernel_rfl) (by kernel_rfl) ?_ (Or.inl ⟨?_, ?_⟩) hHeld ?_
          rotate_left 2
          · simp only [List.getElem?_toArray, List.getElem?_cons_succ, List.getElem?_cons_zero]; rfl
          · exact fun _ _ _ h => h
          · rfl
          · intro w hSw; (try dsimp only at hSw); go_simp; try (with_reducible rfl)
          try simp only [Act.put, List.setIfInBounds_toArray, List.set_cons_zero, List.set_cons_succ]
          refine wpAnyH_take (i := 5) (oi := ?_) (v := ?_) ?_ (by kernel_rfl) (by kernel_rfl) (by kernel_rfl) ?_ (Or.inl ⟨?_, ?_⟩) hHeld ?_
          rotate_left 2
          · simp only [List.getElem?_toArray, List.getElem?_cons_succ, List.getElem?_cons_zero]; rfl
          · exact fun _ _ _ h => h
          · rfl
          · intro w hSw; (try dsimp only at hSw); go_simp; try (with_reducible rfl)
          try simp only [Act.put, List.setIfInBounds_toArray, List.set_cons_zero, List.set_cons_succ]
          refine wpAnyH_take (i := 6) (oi := ?_) (v := ?_) ?_ (by kernel_rfl) (by kernel_rfl) (by kernel_rfl) ?_ (Or.inl ⟨?_, ?_⟩) hHeld ?_
          rotate_left 2
          · simp only [List.getElem?_toArray, List.getElem?_cons_succ, List.getElem?_cons_zero]; rfl
          · exact fun _ _ _ h => h
          · rfl
          · intro w hSw; (try dsimp only at hSw); go_simp; try (with_reducible rfl)
          try simp only [Act.put, List.setIfInBounds_toArray, List.set_cons_zero, List.set_cons_succ]
          refine wpAnyH_ready (rs := [7]) (by kernel_rfl) (by simp) ?_
          refine AllReadyH.cons (o := ?_) ?_ (fun K hK => ?_) ?_
          rotate_left
          · simp only [List.getElem?_toArray, List.getElem?_cons_succ, List.getElem?_cons_zero]; rfl
          · go_simp
            refine (good_any _ (HE2.out _ HS5.out.drew.mod) v ByteArray.empty (some ⟨g, 0, none⟩) 1 1 [nums T] HS5.out.drew.txt rfl HEsz.out (by intro l hl; simp at hl; subst hl; exact HTsz.out) (by simp)).mono ?_
            rintro e w9 ⟨rfl, hm9⟩
            rw [HGd.out]
            have HS9 := Lib.hid (HS5.out.drew.quiet hm9)
            clear k0 k1 k2 z0 z1 z2 hm9
            have k0 := blk_cell HS9.out.row 0
            have k1 := blk_cell HS9.out.row 1
            have k2 := blk_cell HS9.out.row 2
            have z0 := blk_free HS9.out.row 0
            have z1 := blk_free HS9.out.row 1
            have z2 := blk_free HS9.out.row 2
            go_wp2_with fail
            refine hK.out _ _ (⟨k0, k1, k2⟩) ?_
            clear hK K hHeld
            intro hHeld
            try simp only [Act.put, List.setIfInBounds_toArray, List.set_cons_zero, List.set_cons_succ]
            refine wpAnyH_take (i := 8) (oi := ?_) (v := ?_) ?_ (by kernel_rfl) (by kernel_rfl) (by kernel_rfl) ?_ (Or.inl ⟨?_, ?_⟩) hHeld ?_
            rotate_left 2
            · simp only [List.getElem?_toArray, List.getElem?_cons_succ, List.getElem?_cons_zero]; rfl
            · exact fun _ _ _ h => h
            · rfl
            · intro w hSw; (try dsimp only at hSw); go_simp; try (with_reducible rfl)
            try simp only [Act.put, List.setIfInBounds_toArray, List.set_cons_zero, List.set_cons_succ]
            refine wpAnyH_ready (rs := [9]) (by kernel_rfl) (by simp) ?_
            refine AllReadyH.cons (o := ?_) ?_ (fun K hK => ?_) ?_
            rotate_left
            · simp only [List.getElem?_toArray, List.getElem?_cons_succ, List.getElem?_cons_zero]; rfl
            · go_simp
              refine hK.out _ _ (HS9.out.keep) ?_
              clear hK K hHeld
              intro hHeld
              try simp only [Act.put, List.setIfInBounds_toArray, List.set_cons_zero, List.set_cons_succ]
              refine wpAnyH_take (i := 10) (oi := ?_) (v := ?_) ?_ (by kernel_rfl) (by kernel_rfl) (by kernel_rfl) ?_ (Or.inl ⟨?_, ?_⟩) hHeld ?_
              rotate_left 2
              · simp only [List.getElem?_toArray, List.getElem?_cons_succ, List.getElem?_cons_zero]; rfl
              · exact fun _ _ _ h => h
              · rfl
              · intro w hSw; (try dsimp only at hSw); go_simp; try (with_reducible rfl)
              try simp only [Act.put, List.setIfInBounds_toArray, List.set_cons_zero, List.set_cons_succ]
              refine wpAnyH_take (i := 11) (oi := ?_) (v := ?_) ?_ (by kernel_rfl) (by kernel_rfl) (by kernel_rfl) ?_ (Or.inl ⟨?_, ?_⟩) hHeld ?_
              rotate_left 2
              · simp only [List.getElem?_toArray, List.getElem?_cons_succ, List.getElem?_cons_zero]; rfl
              · exact fun _ _ _ h => h
              · rfl
              · intro w hSw; (try dsimp only at hSw); go_simp; try (with_reducible rfl)
              try simp only [Act.put, List.setIfInBounds_toArray, List.set_cons_zero, List.set_cons_succ]
              refine wpAnyH_done (by kernel_rfl) ?_ _
              clear hHeld
              go_wp2_with fail
              refine bodyPost_ret (v := .tuple #[.agg (repC v ByteArray.empty (some ⟨g, 0, none⟩) 1 1), .bool true, .bool true]) (res_cell_tmp2_row rfl _ _ w.heap.size 24 _ (0, 0) _ rfl HS9.out.fin_row Tryd.underlying24 rfl rep_size _ _ rfl rfl) rfl (one_good HF.out (by rw [HV.out]) (by rw [HV.out]; rfl) (by rw [HV.out]; exact HTn.out) (by rw [HV.out, ← HX.out]; rfl) HS9.out)
            exact AllReadyH.nil
          exact AllReadyH.nil
    · obtain ⟨Wd, hW⟩ : ∃ q, strOfNums (cutW 32 (nums T)) = q := ⟨_, rfl⟩
      obtain ⟨Rd, hR⟩ : ∃ q, strOfNums (cutR 32 (nums T)) = q := ⟨_, rfl⟩
      obtain ⟨Bd, hB⟩ : ∃ q, cutB 32 (nums T) = q := ⟨_, rfl⟩
      have HWn := Lib.hid hW
      have HRn := Lib.hid hR
      have HBn := Lib.hid hB
      have hTb := nums_bytes T
      have HWl := Lib.hid (show nums Wd = cutW 32 ((nums s).drop 4) by rw [← hW, nums_strOfNums (by unfold cutW; exact hTb.take _), HTn.out])
      have HRl := Lib.hid (show nums Rd = cutR 32 ((nums s).drop 4) by rw [← hR, nums_strOfNums (by unfold cutR; exact hTb.drop _), HTn.out])
      have HBl := Lib.hid (show cutB 32 ((nums s).drop 4) = Bd by rw [← hB, HTn.out])
      have HEsz := Lib.hid (show Wd.size ≤ 100000 by rw [← nums_length, HWl.out]; unfold cutW; rw [List.length_take, List.length_drop, HL.out]; omega)
      have HTsz := Lib.hid (show (nums Rd).length ≤ 100000 by rw [HRl.out]; unfold cutR; rw [List.length_drop, List.length_drop, HL.out]; omega)
      clear hW hR hB hTb
      cases hv : numP ((nums s).take 3) with
      | none =>
        have HF := Lib.hid (one_nonum (enh := true) HS4.out hv)
        rw [HDn.out, hv] at HNum
        clear hv
        go_enter Tryd.func30, Tryd.ntmps30
        go_wp2_with (go_at_call 33; refine HNum.out.mono ?_; rintro e w1 ⟨rfl, hm1⟩; have HM1 := Lib.hid (HM0.out.trans hm1); have HR1 := Lib.hid (hm1.row HN0.out (by simp)); have k0 := blk_cell HR1.out 0; have z0 := blk_free HR1.out 0; have k1 := blk_cell HR1.out 1; have z1 := blk_free HR1.out 1; have k2 := blk_cell HR1.out 2; have z2 := blk_free HR1.out 2; have hlt0 := blk_lt HR1.out; clear hm1; unfold numV)
        have hr1 := blk_set HR1.out 0 (.int .i64 0)
        have hmc : Mod [w.heap.size] w (w1.setCell ⟨w.heap.size, 0, none⟩ (.int .i64 0)) := (HM1.out.mono (by simp)).setCell (Or.inl (by simp)) _
        have HCut := Lib.hid (ccut_any T _ (HE2.out _ hmc) HTs.out)
        rw [HWn.out, HRn.out, HBn.out] at HCut
        have HMc := Lib.hid hmc
        have HRc := Lib.hid (show (w1.setCell ⟨w.heap.size, 0, none⟩ (.int .i64 0)).heap[w.heap.size]? = some (.cells (repC 0 ByteArray.empty none 0 0) 24 (0, 0)) from hr1)
        clear hr1 hmc
        refine HCut.out.mono ?_
        rintro e w2 ⟨rfl, hm2⟩
        have HR2 := Lib.hid (hm2.row HRc.out (by simp))
        have HM2 := Lib.hid (HMc.out.trans (hm2.mono (by simp)))
        have hlt2 := blk_lt HR2.out
        clear k0 k1 k2 z0 z1 z2 hm2 hlt0
        have k0 := blk_cell HR2.out 0
        have k1 := blk_cell HR2.out 1
        have k2 := blk_cell HR2.out 2
        have z0 := blk_free HR2.out 0
        have z1 := blk_free HR2.out 1
        have z2 := blk_free HR2.out 2
        go_wp2_with fail
        have hs4 : Sgl w w.heap.size 0 Wd (nums Rd) w2.heap.size (((w2.setCell ⟨w.heap.size, 1, none⟩ (.string Wd)).setCell ⟨w.heap.size, 2, none⟩ (.slice (some ⟨w2.heap.size, 0, none⟩) 1 1)).alloc (.cells #[.string Rd] 9)) :=
          ⟨((Mod.refl [] _).alloc _).row (erow HR2.out) (by simp), new_text _ _ (by simp) Rd, ((HM2.out.setCell (Or.inl (by simp)) _).setCell (Or.inl (by simp)) _).alloc _, by omega⟩
        generalize ((w2.setCell ⟨w.heap.size, 1, none⟩ (.string Wd)).setCell ⟨w.heap.size, 2, none⟩ (.slice (some ⟨w2.heap.size, 0, none⟩) 1 1)).alloc (.cells #[.string Rd] 9) = w4 at *
        generalize w2.heap.size = g at *
        have HS5 := Lib.hid hs4
        clear k0 k1 k2 z0 z1 z2 hs4
        have k0 := blk_cell HS5.out.row 0
        have k1 := blk_cell HS5.out.row 1
        have k2 := blk_cell HS5.out.row 2
        have z0 := blk_free HS5.out.row 0
        have z1 := blk_free HS5.out.row 1
        have z2 := blk_free HS5.out.row 2
        refine wp_region_held_drew (S := (fun W => W.cell? ⟨w.heap.size, 0, none⟩ = some (.int .i64 0) ∧ W.cell? ⟨w.heap.size, 1, none⟩ = some (.string Wd) ∧ W.cell? ⟨w.heap.size, 2, none⟩ = some (.slice (some ⟨g, 0, none⟩) 1 1))) (by kernel_rfl) (⟨k0, k1, k2⟩) (fun hHeld => ?_)
        refine wpAnyH_take (i := 0) (oi := ?_) (v := ?_) ?_ (by kernel_rfl) (by kernel_rfl) (by kernel_rfl) ?_ (Or.inl ⟨?_, ?_⟩) hHeld ?_
        rotate_left 2
        · simp only [List.getElem?_toArray, List.getElem?_cons_succ, List.getElem?_cons_zero]; rfl
        · exact fun _ _ _ h => h
        · rfl
        · intro w hSw; (try dsimp only at hSw); go_simp; try (with_reducible rfl)
        try simp only [Act.put, List.setIfInBounds_toArray, List.set_cons_zero, List.set_cons_succ]
        refine wpAnyH_take (i := 1) (oi := ?_) (v := ?_) ?_ (by kernel_rfl) (by kernel_rfl) (by kernel_rfl) ?_ (Or.inl ⟨?_, ?_⟩) hHeld ?_
        rotate_left 2
        · simp only [List.getElem?_toArray, List.getElem?_cons_succ, List.getElem?_cons_zero]; rfl
        · exact fun _ _ _ h => h
        · rfl
        · intro w hSw; (try dsimp only at hSw); go_simp; try (with_reducible rfl)
        try simp only [Act.put, List.setIfInBounds_toArray, List.set_cons_zero, List.set_cons_succ]
        refine wpAnyH_take (i := 2) (oi := ?_) (v := ?_) ?_ (by kernel_rfl) (by kernel_rfl) (by kernel_rfl) ?_ (Or.inl ⟨?_, ?_⟩) hHeld ?_
        rotate_left 2
        · simp only [List.getElem?_toArray, List.getElem?_cons_succ, List.getElem?_cons_zero]; rfl
        · exact fun _ _ _ h => h
        · rfl
        · intro w hSw; (try dsimp only at hSw); go_simp; try (with_reducible rfl)
        try simp only [Act.put, List.setIfInBounds_toArray, List.set_cons_zero, List.set_cons_succ]
        refine wpAnyH_take (i := 3) (oi := ?_) (v := ?_) ?_ (by kernel_rfl) (by kernel_rfl) (by kernel_rfl) ?_ (Or.inl ⟨?_, ?_⟩) hHeld ?_
        rotate_left 2
        · simp only [List.getElem?_toArray, List.getElem?_cons_succ, List.getElem?_cons_zero]; rfl
        · exact fun _ _ _ h => h
        · rfl
        · intro w hSw; (try dsimp only at hSw); go_simp; try (with_reducible rfl)
        try simp only [Act.put, List.setIfInBounds_toArray, List.set_cons_zero, List.set_cons_succ]
        refine wpAnyH_take (i := 4) (oi := ?_) (v := ?_) ?_ (by kernel_rfl) (by kernel_rfl) (by kernel_rfl) ?_ (Or.inl ⟨?_, ?_⟩) hHeld ?_
        rotate_left 2
        · simp only [List.getElem?_toArray, List.getElem?_cons_succ, List.getElem?_cons_zero]; rfl
        · exact fun _ _ _ h => h
        · rfl
        · intro w hSw; (try dsimp only at hSw); go_simp; try (with_reducible rfl)
        try simp only [Act.put, List.setIfInBounds_toArray, List.set_cons_zero, List.set_cons_succ]
        refine wpAnyH_take (i := 5) (oi := ?_) (v := ?_) ?_ (by kernel_rfl) (by kernel_rfl) (by kernel_rfl) ?_ (Or.inl ⟨?_, ?_⟩) hHeld ?_
        rotate_left 2
        · simp only [List.getElem?_toArray, List.getElem?_cons_succ, List.getElem?_cons_zero]; rfl
        · exact fun _ _ _ h => h
        · rfl
        · intro w hSw; (try dsimp only at hSw); go_simp; try (with_reducible rfl)
        try simp only [Act.put, List.setIfInBounds_toArray, List.set_cons_zero, List.set_cons_succ]
        refine wpAnyH_take (i := 6) (oi := ?_) (v := ?_) ?_ (by kernel_rfl) (by kernel_rfl) (by kernel_rfl) ?_ (Or.inr ⟨?_, ?_⟩) hHeld ?_
        rotate_left 2
        · simp only [List.getElem?_toArray, List.getElem?_cons_succ, List.getElem?_cons_zero]; rfl
        · exact fun _ _ _ h => h
        · kernel_rfl
        · rfl
        try simp only [Act.put, List.setIfInBounds_toArray, List.set_cons_zero, List.set_cons_succ]
        refine wpAnyH_take (i := 7) (oi := ?_) (v := ?_) ?_ (by kernel_rfl) (by kernel_rfl) (by kernel_rfl) ?_ (Or.inr ⟨?_, ?_⟩) hHeld ?_
        rotate_left 2
        · simp only [List.getElem?_toArray, List.getElem?_cons_succ, List.getElem?_cons_zero]; rfl
        · exact fun _ _ _ h => h
        · kernel_rfl
        · rfl
        try simp only [Act.put, List.setIfInBounds_toArray, List.set_cons_zero, List.set_cons_succ]
        refine wpAnyH_take (i := 8) (oi := ?_) (v := ?_) ?_ (by kernel_rfl) (by kernel_rfl) (by kernel_rfl) ?_ (Or.inl ⟨?_, ?_⟩) hHeld ?_
        rotate_left 2
        · simp only [List.getElem?_toArray, List.getElem?_cons_succ, List.getElem?_cons_zero]; rfl
        · exact fun _ _ _ h => h
        · rfl
        · intro w hSw; (try dsimp only at hSw); go_simp; try (with_reducible rfl)
        try simp only [Act.put, List.setIfInBounds_toArray, List.set_cons_zero, List.set_cons_succ]
        refine wpAnyH_ready (rs := [9]) (by kernel_rfl) (by simp) ?_
        refine AllReadyH.cons (o := ?_) ?_ (fun K hK => ?_) ?_
        rotate_left
        · simp only [List.getElem?_toArray, List.getElem?_cons_succ, List.getElem?_cons_zero]; rfl
        · go_simp
          refine hK.out _ _ (HS5.out.drew.keep) ?_
          clear hK K hHeld
          intro hHeld
          try simp only [Act.put, List.setIfInBounds_toArray, List.set_cons_zero, List.set_cons_succ]
          refine wpAnyH_take (i := 10) (oi := ?_) (v := ?_) ?_ (by kernel_rfl) (by kernel_rfl) (by kernel_rfl) ?_ (Or.inl ⟨?_, ?_⟩) hHeld ?_
          rotate_left 2
          · simp only [List.getElem?_toArray, List.getElem?_cons_succ, List.getElem?_cons_zero]; rfl
          · exact fun _ _ _ h => h
          · rfl
          · intro w hSw; (try dsimp only at hSw); go_simp; try (with_reducible rfl)
          try simp only [Act.put, List.setIfInBounds_toArray, List.set_cons_zero, List.set_cons_succ]
          refine wpAnyH_take (i := 11) (oi := ?_) (v := ?_) ?_ (by kernel_rfl) (by kernel_rfl) (by kernel_rfl) ?_ (Or.inl ⟨?_, ?_⟩) hHeld ?_
          rotate_left 2
          · simp only [List.getElem?_toArray, List.getElem?_cons_succ, List.getElem?_cons_zero]; rfl
          · exact fun _ _ _ h => h
          · rfl
          · intro w hSw; (try dsimp only at hSw); go_simp; try (with_reducible rfl)
          try simp only [Act.put, List.setIfInBounds_toArray, List.set_cons_zero, List.set_cons_succ]
          refine wpAnyH_done (by kernel_rfl) ?_ _
          clear hHeld
          go_wp2_with fail
          refine bodyPost_ret (v := .tuple #[.agg (repC 0 Wd (some ⟨g, 0, none⟩) 1 1), .bool true, .bool false]) (res_cell_tmp2_row rfl _ _ w.heap.size 24 _ (0, 0) _ rfl HS5.out.drew.fin_row Tryd.underlying24 rfl rep_size _ _ rfl rfl) rfl (one_fail HF.out HS5.out.drew.fin_mod)
        exact AllReadyH.nil
      | some v =>
        have hone := one_enh HS4.out HS3.out hv
        have HV := Lib.hid hone.2
        have hone1 := hone.1
        rw [HBl.out] at hone1
        rw [HDn.out, hv] at HNum
        clear hv hone
        cases Bd
        · have HF := Lib.hid (show oneB true (nums s) = false by rw [hone1]; rfl)
          clear hone1
          go_enter Tryd.func30, Tryd.ntmps30
          go_wp2_with (go_at_call 33; refine HNum.out.mono ?_; rintro e w1 ⟨rfl, hm1⟩; have HM1 := Lib.hid (HM0.out.trans hm1); have HR1 := Lib.hid (hm1.row HN0.out (by simp)); have k0 := blk_cell HR1.out 0; have z0 := blk_free HR1.out 0; have k1 := blk_cell HR1.out 1; have z1 := blk_free HR1.out 1; have k2 := blk_cell HR1.out 2; have z2 := blk_free HR1.out 2; have hlt0 := blk_lt HR1.out; clear hm1; unfold numV)
          have hr1 := blk_set HR1.out 0 (.int .i64 v)
          have hmc : Mod [w.heap.size] w (w1.setCell ⟨w.heap.size, 0, none⟩ (.int .i64 v)) := (HM1.out.mono (by simp)).setCell (Or.inl (by simp)) _
          have HCut := Lib.hid (ccut_any T _ (HE2.out _ hmc) HTs.out)
          rw [HWn.out, HRn.out, HBn.out] at HCut
          have HMc := Lib.hid hmc
          have HRc := Lib.hid (show (w1.setCell ⟨w.heap.size, 0, none⟩ (.int .i64 v)).heap[w.heap.size]? = some (.cells (repC v ByteArray.empty none 0 0) 24 (0, 0)) from hr1)
          clear hr1 hmc
          refine HCut.out.mono ?_
          rintro e w2 ⟨rfl, hm2⟩
          have HR2 := Lib.hid (hm2.row HRc.out (by simp))
          have HM2 := Lib.hid (HMc.out.trans (hm2.mono (by simp)))
          have hlt2 := blk_lt HR2.out
          clear k0 k1 k2 z0 z1 z2 hm2 hlt0
          have k0 := blk_cell HR2.out 0
          have k1 := blk_cell HR2.out 1
          have k2 := blk_cell HR2.out 2
          have z0 := blk_free HR2.out 0
          have z1 := blk_free HR2.out 1
          have z2 := blk_free HR2.out 2
          go_wp2_with fail
          have hs4 : Sgl w w.heap.size v Wd (nums Rd) w2.heap.size (((w2.setCell ⟨w.heap.size, 1, none⟩ (.string Wd)).setCell ⟨w.heap.size, 2, none⟩ (.slice (some ⟨w2.heap.size, 0, none⟩) 1 1)).alloc (.cells #[.string Rd] 9)) :=
            ⟨((Mod.refl [] _).alloc _).row (erow HR2.out) (by simp), new_text _ _ (by simp) Rd, ((HM2.out.setCell (Or.inl (by simp)) _).setCell (Or.inl (by simp)) _).alloc _, by omega⟩
          generalize ((w2.setCell ⟨w.heap.size, 1, none⟩ (.string Wd)).setCell ⟨w.heap.size, 2, none⟩ (.slice (some ⟨w2.heap.size, 0, none⟩) 1 1)).alloc (.cells #[.string Rd] 9) = w4 at *
          generalize w2.heap.size = g at *
          have HS5 := Lib.hid hs4
          clear k0 k1 k2 z0 z1 z2 hs4
          have k0 := blk_cell HS5.out.row 0
          have k1 := blk_cell HS5.out.row 1
          have k2 := blk_cell HS5.out.row 2
          have z0 := blk_free HS5.out.row 0
          have z1 := blk_free HS5.out.row 1
          have z2 := blk_free HS5.out.row 2
          refine wp_region_held_drew (S := (fun W => W.cell? ⟨w.heap.size, 0, none⟩ = some (.int .i64 v) ∧ W.cell? ⟨w.heap.size, 1, none⟩ = some (.string Wd) ∧ W.cell? ⟨w.heap.size, 2, none⟩ = some (.slice (some ⟨g, 0, none⟩) 1 1))) (by kernel_rfl) (⟨k0, k1, k2⟩) (fun hHeld => ?_)
          refine wpAnyH_take (i := 0) (oi := ?_) (v := ?_) ?_ (by kernel_rfl) (by kernel_rfl) (by kernel_rfl) ?_ (Or.inl ⟨?_, ?_⟩) hHeld ?_
          rotate_left 2
          · simp only [List.getElem?_toArray, List.getElem?_cons_succ, List.getElem?_cons_zero]; rfl
          · exact fun _ _ _ h => h
          · rfl
          · intro w hSw; (try dsimp only at hSw); go_simp; try (with_reducible rfl)
          try simp only [Act.put, List.setIfInBounds_toArray, List.set_cons_zero, List.set_cons_succ]
          refine wpAnyH_take (i := 1) (oi := ?_) (v := ?_) ?_ (by kernel_rfl) (by kernel_rfl) (by kernel_rfl) ?_ (Or.inl ⟨?_, ?_⟩) hHeld ?_
          rotate_left 2
          · simp only [List.getElem?_toArray, List.getElem?_cons_succ, List.getElem?_cons_zero]; rfl
          · exact fun _ _ _ h => h
          · rfl
          · intro w hSw; (try dsimp only at hSw); go_simp; try (with_reducible rfl)
          try simp only [Act.put, List.setIfInBounds_toArray, List.set_cons_zero, List.set_cons_succ]
          refine wpAnyH_take (i := 2) (oi := ?_) (v := ?_) ?_ (by kernel_rfl) (by kernel_rfl) (by kernel_rfl) ?_ (Or.inl ⟨?_, ?_⟩) hHeld ?_
          rotate_left 2
          · simp only [List.getElem?_toArray, List.getElem?_cons_succ, List.getElem?_cons_zero]; rfl
          · exact fun _ _ _ h => h
          · rfl
          · intro w hSw; (try dsimp only at hSw); go_simp; try (with_reducible rfl)
          try simp only [Act.put, List.setIfInBounds_toArray, List.set_cons_zero, List.set_cons_succ]
          refine wpAnyH_take (i := 3) (oi := ?_) (v := ?_) ?_ (by kernel_rfl) (by kernel_rfl) (by kernel_rfl) ?_ (Or.inl ⟨?_, ?_⟩) hHeld ?_
          rotate_left 2
          · simp only [List.getElem?_toArray, List.getElem?_cons_succ, List.getElem?_cons_zero]; rfl
          · exact fun _ _ _ h => h
          · rfl
          · intro w hSw; (try dsimp only at hSw); go_simp; try (with_reducible rfl)
          try simp only [Act.put, List.setIfInBounds_toArray, List.set_cons_zero, List.set_cons_succ]
          refine wpAnyH_take (i := 4) (oi := ?_) (v := ?_) ?_ (by kernel_rfl) (by kernel_rfl) (by kernel_rfl) ?_ (Or.inl ⟨?_, ?_⟩) hHeld ?_
          rotate_left 2
          · simp only [List.getElem?_toArray, List.getElem?_cons_succ, List.getElem?_cons_zero]; rfl
          · exact fun _ _ _ h => h
          · rfl
          · intro w hSw; (try dsimp only at hSw); go_simp; try (with_reducible rfl)
          try simp only [Act.put, List.setIfInBounds_toArray, List.set_cons_zero, List.set_cons_succ]
          refine wpAnyH_take (i := 5) (oi := ?_) (v := ?_) ?_ (by kernel_rfl) (by kernel_rfl) (by kernel_rfl) ?_ (Or.inl ⟨?_, ?_⟩) hHeld ?_
          rotate_left 2
          · simp only [List.getElem?_toArray, List.getElem?_cons_succ, List.getElem?_cons_zero]; rfl
          · exact fun _ _ _ h => h
          · rfl
          · intro w hSw; (try dsimp only at hSw); go_simp; try (with_reducible rfl)
          try simp only [Act.put, List.setIfInBounds_toArray, List.set_cons_zero, List.set_cons_succ]
          refine wpAnyH_take (i := 6) (oi := ?_) (v := ?_) ?_ (by kernel_rfl) (by kernel_rfl) (by kernel_rfl) ?_ (Or.inr ⟨?_, ?_⟩) hHeld ?_
          rotate_left 2
          · simp only [List.getElem?_toArray, List.getElem?_cons_succ, List.getElem?_cons_zero]; rfl
          · exact fun _ _ _ h => h
          · kernel_rfl
          · rfl
          try simp only [Act.put, List.setIfInBounds_toArray, List.set_cons_zero, List.set_cons_succ]
          refine wpAnyH_take (i := 7) (oi := ?_) (v := ?_) ?_ (by kernel_rfl) (by kernel_rfl) (by kernel_rfl) ?_ (Or.inr ⟨?_, ?_⟩) hHeld ?_
          rotate_left 2
          · simp only [List.getElem?_toArray, List.getElem?_cons_succ, List.getElem?_cons_zero]; rfl
          · exact fun _ _ _ h => h
          · kernel_rfl
          · rfl
          try simp only [Act.put, List.setIfInBounds_toArray, List.set_cons_zero, List.set_cons_succ]
          refine wpAnyH_take (i := 8) (oi := ?_) (v := ?_) ?_ (by kernel_rfl) (by kernel_rfl) (by kernel_rfl) ?_ (Or.inl ⟨?_, ?_⟩) hHeld ?_
          rotate_left 2
          · simp only [List.getElem?_toArray, List.getElem?_cons_succ, List.getElem?_cons_zero]; rfl
          · exact fun _ _ _ h => h
          · rfl
          · intro w hSw; (try dsimp only at hSw); go_simp; try (with_reducible rfl)
          try simp only [Act.put, List.setIfInBounds_toArray, List.set_cons_zero, List.set_cons_succ]
          refine wpAnyH_ready (rs := [9]) (by kernel_rfl) (by simp) ?_
          refine AllReadyH.cons (o := ?_) ?_ (fun K hK => ?_) ?_
          rotate_left
          · simp only [List.getElem?_toArray, List.getElem?_cons_succ, List.getElem?_cons_zero]; rfl
          · go_simp
            refine hK.out _ _ (HS5.out.drew.keep) ?_
            clear hK K hHeld
            intro hHeld
            try simp only [Act.put, List.setIfInBounds_toArray, List.set_cons_zero, List.set_cons_succ]
            refine wpAnyH_take (i := 10) (oi := ?_) (v := ?_) ?_ (by kernel_rfl) (by kernel_rfl) (by kernel_rfl) ?_ (Or.inl ⟨?_, ?_⟩) hHeld ?_
            rotate_left 2
            · simp only [List.getElem?_toArray, List.getElem?_cons_succ, List.getElem?_cons_zero]; rfl
            · exact fun _ _ _ h => h
            · rfl
            · intro w hSw; (try dsimp only at hSw); go_simp; try (with_reducible rfl)
            try simp only [Act.put, List.setIfInBounds_toArray, List.set_cons_zero, List.set_cons_succ]
            refine wpAnyH_take (i := 11) (oi := ?_) (v := ?_) ?_ (by kernel_rfl) (by kernel_rfl) (by kernel_rfl) ?_ (Or.inl ⟨?_, ?_⟩) hHeld ?_
            rotate_left 2
            · simp only [List.getElem?_toArray, List.getElem?_cons_succ, List.getElem?_cons_zero]; rfl
            · exact fun _ _ _ h => h
            · rfl
            · intro w hSw; (try dsimp only at hSw); go_simp; try (with_reducible rfl)
            try simp only [Act.put, List.setIfInBounds_toArray, List.set_cons_zero, List.set_cons_succ]
            refine wpAnyH_done (by kernel_rfl) ?_ _
            clear hHeld
            go_wp2_with fail
            refine bodyPost_ret (v := .tuple #[.agg (repC v Wd (some ⟨g, 0, none⟩) 1 1), .bool true, .bool false]) (res_cell_tmp2_row rfl _ _ w.heap.size 24 _ (0, 0) _ rfl HS5.out.drew.fin_row Tryd.underlying24 rfl rep_size _ _ rfl rfl) rfl (one_fail HF.out HS5.out.drew.fin_mod)
          exact AllReadyH.nil
        · rw [Bool.true_and] at hone1
          by_cases hw0 : Wd.size = 0
          · have w1' : Wd.toList = [] := toList_nil.2 hw0
            have w2' : (Wd.toList == ([] : List UInt8)) = true := by rw [w1']; rfl
            have HF := Lib.hid (show oneB true (nums s) = false by
              rw [hone1, ← HWl.out, nums_nil.2 hw0]; rfl)
            clear hone1 hw0
            go_enter Tryd.func30, Tryd.ntmps30
            go_wp2_with (go_at_call 33; refine HNum.out.mono ?_; rintro e w1 ⟨rfl, hm1⟩; have HM1 := Lib.hid (HM0.out.trans hm1); have HR1 := Lib.hid (hm1.row HN0.out (by simp)); have k0 := blk_cell HR1.out 0; have z0 := blk_free HR1.out 0; have k1 := blk_cell HR1.out 1; have z1 := blk_free HR1.out 1; have k2 := blk_cell HR1.out 2; have z2 := blk_free HR1.out 2; have hlt0 := blk_lt HR1.out; clear hm1; unfold numV)
            have hr1 := blk_set HR1.out 0 (.int .i64 v)
            have hmc : Mod [w.heap.size] w (w1.setCell ⟨w.heap.size, 0, none⟩ (.int .i64 v)) := (HM1.out.mono (by simp)).setCell (Or.inl (by simp)) _
            have HCut := Lib.hid (ccut_any T _ (HE2.out _ hmc) HTs.out)
            rw [HWn.out, HRn.out, HBn.out] at HCut
            have HMc := Lib.hid hmc
            have HRc := Lib.hid (show (w1.setCell ⟨w.heap.size, 0, none⟩ (.int .i64 v)).heap[w.heap.size]? = some (.cells (repC v ByteArray.empty none 0 0) 24 (0, 0)) from hr1)
            clear hr1 hmc
            refine HCut.out.mono ?_
            rintro e w2 ⟨rfl, hm2⟩
            have HR2 := Lib.hid (hm2.row HRc.out (by simp))
            have HM2 := Lib.hid (HMc.out.trans (hm2.mono (by simp)))
            have hlt2 := blk_lt HR2.out
            clear k0 k1 k2 z0 z1 z2 hm2 hlt0
            have k0 := blk_cell HR2.out 0
            have k1 := blk_cell HR2.out 1
            have k2 := blk_cell HR2.out 2
            have z0 := blk_free HR2.out 0
            have z1 := blk_free HR2.out 1
            have z2 := blk_free HR2.out 2
            go_wp2_with fail
            have hs4 : Sgl w w.heap.size v Wd (nums Rd) w2.heap.size (((w2.setCell ⟨w.heap.size, 1, none⟩ (.string Wd)).setCell ⟨w.heap.size, 2, none⟩ (.slice (some ⟨w2.heap.size, 0, none⟩) 1 1)).alloc (.cells #[.string Rd] 9)) :=
              ⟨((Mod.refl [] _).alloc _).row (erow HR2.out) (by simp), new_text _ _ (by simp) Rd, ((HM2.out.setCell (Or.inl (by simp)) _).setCell (Or.inl (by simp)) _).alloc _, by omega⟩
            generalize ((w2.setCell ⟨w.heap.size, 1, none⟩ (.string Wd)).setCell ⟨w.heap.size, 2, none⟩ (.slice (some ⟨w2.heap.size, 0, none⟩) 1 1)).alloc (.cells #[.string Rd] 9) = w4 at *
            generalize w2.heap.size = g at *
            have HS5 := Lib.hid hs4
            clear k0 k1 k2 z0 z1 z2 hs4
            have k0 := blk_cell HS5.out.row 0
            have k1 := blk_cell HS5.out.row 1
            have k2 := blk_cell HS5.out.row 2
            have z0 := blk_free HS5.out.row 0
            have z1 := blk_free HS5.out.row 1
            have z2 := blk_free HS5.out.row 2
            refine wp_region_held_drew (S := (fun W => W.cell? ⟨w.heap.size, 0, none⟩ = some (.int .i64 v) ∧ W.cell? ⟨w.heap.size, 1, none⟩ = some (.string Wd) ∧ W.cell? ⟨w.heap.size, 2, none⟩ = some (.slice (some ⟨g, 0, none⟩) 1 1))) (by kernel_rfl) (⟨k0, k1, k2⟩) (fun hHeld => ?_)
            refine wpAnyH_take (i := 0) (oi := ?_) (v := ?_) ?_ (by kernel_rfl) (by kernel_rfl) (by kernel_rfl) ?_ (Or.inl ⟨?_, ?_⟩) hHeld ?_
            rotate_left 2
            · simp only [List.getElem?_toArray, List.getElem?_cons_succ, List.getElem?_cons_zero]; rfl
            · exact fun _ _ _ h => h
            · rfl
            · intro w hSw; (try dsimp only at hSw); go_simp; try (with_reducible rfl)
            try simp only [Act.put, List.setIfInBounds_toArray, List.set_cons_zero, List.set_cons_succ]
            refine wpAnyH_take (i := 1) (oi := ?_) (v := ?_) ?_ (by kernel_rfl) (by kernel_rfl) (by kernel_rfl) ?_ (Or.inl ⟨?_, ?_⟩) hHeld ?_
            rotate_left 2
            · simp only [List.getElem?_toArray, List.getElem?_cons_succ, List.getElem?_cons_zero]; rfl
            · exact fun _ _ _ h => h
            · rfl
            · intro w hSw; (try dsimp only at hSw); go_simp; try (with_reducible rfl)
            try simp only [Act.put, List.setIfInBounds_toArray, List.set_cons_zero, List.set_cons_succ]
            refine wpAnyH_take (i := 2) (oi := ?_) (v := ?_) ?_ (by kernel_rfl) (by kernel_rfl) (by kernel_rfl) ?_ (Or.inl ⟨?_, ?_⟩) hHeld ?_
            rotate_left 2
            · simp only [List.getElem?_toArray, List.getElem?_cons_succ, List.getElem?_cons_zero]; rfl
            · exact fun _ _ _ h => h
            · rfl
            · intro w hSw; (try dsimp only at hSw); go_simp; try (with_reducible rfl)
            try simp only [Act.put, List.setIfInBounds_toArray, List.set_cons_zero, List.set_cons_succ]
            refine wpAnyH_take (i := 3) (oi := ?_) (v := ?_) ?_ (by kernel_rfl) (by kernel_rfl) (by kernel_rfl) ?_ (Or.inl ⟨?_, ?_⟩) hHeld ?_
            rotate_left 2
            · simp only [List.getElem?_toArray, List.getElem?_cons_succ, List.getElem?_cons_zero]; rfl
            · exact fun _ _ _ h => h
            · rfl
            · intro w hSw; (try dsimp only at hSw); go_simp; try (with_reducible rfl)
            try simp only [Act.put, List.setIfInBounds_toArray, List.set_cons_zero, List.set_cons_succ]
            refine wpAnyH_take (i := 4) (oi := ?_) (v := ?_) ?_ (by kernel_rfl) (by kernel_rfl) (by kernel_rfl) ?_ (Or.inl ⟨?_, ?_⟩) hHeld ?_
            rotate_left 2
            · simp only [List.getElem?_toArray, List.getElem?_cons_succ, List.getElem?_cons_zero]; rfl
            · exact fun _ _ _ h => h
            · rfl
            · intro w hSw; (try dsimp only at hSw); go_simp; try (with_reducible rfl)
            try simp only [Act.put, List.setIfInBounds_toArray, List.set_cons_zero, List.set_cons_succ]
            refine wpAnyH_take (i := 5) (oi := ?_) (v := ?_) ?_ (by kernel_rfl) (by kernel_rfl) (by kernel_rfl) ?_ (Or.inl ⟨?_, ?_⟩) hHeld ?_
            rotate_left 2
            · simp only [List.getElem?_toArray, List.getElem?_cons_succ, List.getElem?_cons_zero]; rfl
            · exact fun _ _ _ h => h
            · rfl
            · intro w hSw; (try dsimp only at hSw); go_simp; try (with_reducible rfl)
            try simp only [Act.put, List.setIfInBounds_toArray, List.set_cons_zero, List.set_cons_succ]
            refine wpAnyH_take (i := 6) (oi := ?_) (v := ?_) ?_ (by kernel_rfl) (by kernel_rfl) (by kernel_rfl) ?_ (Or.inr ⟨?_, ?_⟩) hHeld ?_
            rotate_left 2
            · simp only [List.getElem?_toArray, List.getElem?_cons_succ, List.getElem?_cons_zero]; rfl
            · exact fun _ _ _ h => h
            · kernel_rfl
            · rfl
            try simp only [Act.put, List.setIfInBounds_toArray, List.set_cons_zero, List.set_cons_succ]
            refine wpAnyH_take (i := 7) (oi := ?_) (v := ?_) ?_ (by kernel_rfl) (by kernel_rfl) (by kernel_rfl) ?_ (Or.inr ⟨?_, ?_⟩) hHeld ?_
            rotate_left 2
            · simp only [List.getElem?_toArray, List.getElem?_cons_succ, List.getElem?_cons_zero]; rfl
            · exact fun _ _ _ h => h
            · kernel_rfl
            · rfl
            try simp only [Act.put, List.setIfInBounds_toArray, List.set_cons_zero, List.set_cons_succ]
            refine wpAnyH_take (i := 8) (oi := ?_) (v := ?_) ?_ (by kernel_rfl) (by kernel_rfl) (by kernel_rfl) ?_ (Or.inl ⟨?_, ?_⟩) hHeld ?_
            rotate_left 2
            · simp only [List.getElem?_toArray, List.getElem?_cons_succ, List.getElem?_cons_zero]; rfl
            · exact fun _ _ _ h => h
            · rfl
            · intro w hSw; (try dsimp only at hSw); go_simp; try (with_reducible rfl)
            try simp only [Act.put, List.setIfInBounds_toArray, List.set_cons_zero, List.set_cons_succ]
            refine wpAnyH_ready (rs := [9]) (by kernel_rfl) (by simp) ?_
            refine AllReadyH.cons (o := ?_) ?_ (fun K hK => ?_) ?_
            rotate_left
            · simp only [List.getElem?_toArray, List.getElem?_cons_succ, List.getElem?_cons_zero]; rfl
            · go_simp
              refine hK.out _ _ (HS5.out.drew.keep) ?_
              clear hK K hHeld
              intro hHeld
              try simp only [Act.put, List.setIfInBounds_toArray, List.set_cons_zero, List.set_cons_succ]
              refine wpAnyH_take (i := 10) (oi := ?_) (v := ?_) ?_ (by kernel_rfl) (by kernel_rfl) (by kernel_rfl) ?_ (Or.inl ⟨?_, ?_⟩) hHeld ?_
              rotate_left 2
              · simp only [List.getElem?_toArray, List.getElem?_cons_succ, List.getElem?_cons_zero]; rfl
              · exact fun _ _ _ h => h
              · rfl
              · intro w hSw; (try dsimp only at hSw); go_simp; try (with_reducible rfl)
              try simp only [Act.put, List.setIfInBounds_toArray, List.set_cons_zero, List.set_cons_succ]
              refine wpAnyH_take (i := 11) (oi := ?_) (v := ?_) ?_ (by kernel_rfl) (by kernel_rfl) (by kernel_rfl) ?_ (Or.inl ⟨?_, ?_⟩) hHeld ?_
              rotate_left 2
              · simp only [List.getElem?_toArray, List.getElem?_cons_succ, List.getElem?_cons_zero]; rfl
              · exact fun _ _ _ h => h
              · rfl
              · intro w hSw; (try dsimp only at hSw); go_simp; try (with_reducible rfl)
              try simp only [Act.put, List.setIfInBounds_toArray, List.set_cons_zero, List.set_cons_succ]
              refine wpAnyH_done (by kernel_rfl) ?_ _
              clear hHeld
              go_wp2_with fail
              refine bodyPost_ret (v := .tuple #[.agg (repC v Wd (some ⟨g, 0, none⟩) 1 1), .bool true, .bool false]) (res_cell_tmp2_row rfl _ _ w.heap.size 24 _ (0, 0) _ rfl HS5.out.drew.fin_row Tryd.underlying24 rfl rep_size _ _ rfl rfl) rfl (one_fail HF.out HS5.out.drew.fin_mod)
            exact AllReadyH.nil
          · have w1' : Wd.toList ≠ [] := fun h => hw0 (toList_nil.1 h)
            have w2' : (Wd.toList == ([] : List UInt8)) = false := by rw [beq_eq_false_iff_ne]; exact w1'
            have hone2 : oneB true (nums s) = goodB ⟨(v : Int), cutW 32 ((nums s).drop 4), [cutR 32 ((nums s).drop 4)]⟩ := by
              rw [hone1, decide_eq_true (p := cutW 32 ((nums s).drop 4) ≠ []) (by rw [← HWl.out]; exact fun h => hw0 (nums_nil.1 h)), Bool.true_and]
            clear hone1 hw0
            cases hg : goodB ⟨(v : Int), cutW 32 ((nums s).drop 4), [cutR 32 ((nums s).drop 4)]⟩
            · have HGd := Lib.hid (show goodB ⟨(v : Int), nums Wd, [nums Rd]⟩ = false by rw [HWl.out, HRl.out]; exact hg)
              have HF := Lib.hid (hone2.trans hg)
              clear hg hone2
              go_enter Tryd.func30, Tryd.ntmps30
              go_wp2_with (go_at_call 33; refine HNum.out.mono ?_; rintro e w1 ⟨rfl, hm1⟩; have HM1 := Lib.hid (HM0.out.trans hm1); have HR1 := Lib.hid (hm1.row HN0.out (by simp)); have k0 := blk_cell HR1.out 0; have z0 := blk_free HR1.out 0; have k1 := blk_cell HR1.out 1; have z1 := blk_free HR1.out 1; have k2 := blk_cell HR1.out 2; have z2 := blk_free HR1.out 2; have hlt0 := blk_lt HR1.out; clear hm1; unfold numV)
              have hr1 := blk_set HR1.out 0 (.int .i64 v)
              have hmc : Mod [w.heap.size] w (w1.setCell ⟨w.heap.size, 0, none⟩ (.int .i64 v)) := (HM1.out.mono (by simp)).setCell (Or.inl (by simp)) _
              have HCut := Lib.hid (ccut_any T _ (HE2.out _ hmc) HTs.out)
              rw [HWn.out, HRn.out, HBn.out] at HCut
              have HMc := Lib.hid hmc
              have HRc := Lib.hid (show (w1.setCell ⟨w.heap.size, 0, none⟩ (.int .i64 v)).heap[w.heap.size]? = some (.cells (repC v ByteArray.empty none 0 0) 24 (0, 0)) from hr1)
              clear hr1 hmc
              refine HCut.out.mono ?_
              rintro e w2 ⟨rfl, hm2⟩
              have HR2 := Lib.hid (hm2.row HRc.out (by simp))
              have HM2 := Lib.hid (HMc.out.trans (hm2.mono (by simp)))
              have hlt2 := blk_lt HR2.out
              clear k0 k1 k2 z0 z1 z2 hm2 hlt0
              have k0 := blk_cell HR2.out 0
              have k1 := blk_cell HR2.out 1
              have k2 := blk_cell HR2.out 2
              have z0 := blk_free HR2.out 0
              have z1 := blk_free HR2.out 1
              have z2 := blk_free HR2.out 2
              go_wp2_with fail
              have hs4 : Sgl w w.heap.size v Wd (nums Rd) w2.heap.size (((w2.setCell ⟨w.heap.size, 1, none⟩ (.string Wd)).setCell ⟨w.heap.size, 2, none⟩ (.slice (some ⟨w2.heap.size, 0, none⟩) 1 1)).alloc (.cells #[.string Rd] 9)) :=
                ⟨((Mod.refl [] _).alloc _).row (erow HR2.out) (by simp), new_text _ _ (by simp) Rd, ((HM2.out.setCell (Or.inl (by simp)) _).setCell (Or.inl (by simp)) _).alloc _, by omega⟩
              generalize ((w2.setCell ⟨w.heap.size, 1, none⟩ (.string Wd)).setCell ⟨w.heap.size, 2, none⟩ (.slice (some ⟨w2.heap.size, 0, none⟩) 1 1)).alloc (.cells #[.string Rd] 9) = w4 at *
              generalize w2.heap.size = g at *
              have HS5 := Lib.hid hs4
              clear k0 k1 k2 z0 z1 z2 hs4
              have k0 := blk_cell HS5.out.row 0
              have k1 := blk_cell HS5.out.row 1
              have k2 := blk_cell HS5.out.row 2
              have z0 := blk_free HS5.out.row 0
              have z1 := blk_free HS5.out.row 1
              have z2 := blk_free HS5.out.row 2
              refine wp_region_held_drew (S := (fun W => W.cell? ⟨w.heap.size, 0, none⟩ = some (.int .i64 v) ∧ W.cell? ⟨w.heap.size, 1, none⟩ = some (.string Wd) ∧ W.cell? ⟨w.heap.size, 2, none⟩ = some (.slice (some ⟨g, 0, none⟩) 1 1))) (by kernel_rfl) (⟨k0, k1, k2⟩) (fun hHeld => ?_)
              refine wpAnyH_take (i := 0) (oi := ?_) (v := ?_) ?_ (by kernel_rfl) (by kernel_rfl) (by kernel_rfl) ?_ (Or.inl ⟨?_, ?_⟩) hHeld ?_
              rotate_left 2
              · simp only [List.getElem?_toArray, List.getElem?_cons_succ, List.getElem?_cons_zero]; rfl
              · exact fun _ _ _ h => h
              · rfl
              · intro w hSw; (try dsimp only at hSw); go_simp; try (with_reducible rfl)
              try simp only [Act.put, List.setIfInBounds_toArray, List.set_cons_zero, List.set_cons_succ]
              refine wpAnyH_take (i := 1) (oi := ?_) (v := ?_) ?_ (by kernel_rfl) (by kernel_rfl) (by kernel_rfl) ?_ (Or.inl ⟨?_, ?_⟩) hHeld ?_
              rotate_left 2
              · simp only [List.getElem?_toArray, List.getElem?_cons_succ, List.getElem?_cons_zero]; rfl
              · exact fun _ _ _ h => h
              · rfl
              · intro w hSw; (try dsimp only at hSw); go_simp; try (with_reducible rfl)
              try simp only [Act.put, List.setIfInBounds_toArray, List.set_cons_zero, List.set_cons_succ]
              refine wpAnyH_take (i := 2) (oi := ?_) (v := ?_) ?_ (by kernel_rfl) (by kernel_rfl) (by kernel_rfl) ?_ (Or.inl ⟨?_, ?_⟩) hHeld ?_
              rotate_left 2
              · simp only [List.getElem?_toArray, List.getElem?_cons_succ, List.getElem?_cons_zero]; rfl
              · exact fun _ _ _ h => h
              · rfl
              · intro w hSw; (try dsimp only at hSw); go_simp; try (with_reducible rfl)
              try simp only [Act.put, List.setIfInBounds_toArray, List.set_cons_zero, List.set_cons_succ]
              refine wpAnyH_take (i := 3) (oi := ?_) (v := ?_) ?_ (by kernel_rfl) (by kernel_rfl) (by kernel_rfl) ?_ (Or.inl ⟨?_, ?_⟩) hHeld ?_
              rotate_left 2
              · simp only [List.getElem?_toArray, List.getElem?_cons_succ, List.getElem?_cons_zero]; rfl
              · exact fun _ _ _ h => h
              · rfl
              · intro w hSw; (try dsimp only at hSw); go_simp; try (with_reducible rfl)
              try simp only [Act.put, List.setIfInBounds_toArray, List.set_cons_zero, List.set_cons_succ]
              refine wpAnyH_take (i := 4) (oi := ?_) (v := ?_) ?_ (by kernel_rfl) (by kernel_rfl) (by kernel_rfl) ?_ (Or.inl ⟨?_, ?_⟩) hHeld ?_
              rotate_left 2
              · simp only [List.getElem?_toArray, List.getElem?_cons_succ, List.getElem?_cons_zero]; rfl
              · exact fun _ _ _ h => h
              · rfl
              · intro w hSw; (try dsimp only at hSw); go_simp; try (with_reducible rfl)
              try simp only [Act.put, List.setIfInBounds_toArray, List.set_cons_zero, List.set_cons_succ]
              refine wpAnyH_take (i := 5) (oi := ?_) (v := ?_) ?_ (by kernel_rfl) (by kernel_rfl) (by kernel_rfl) ?_ (Or.inl ⟨?_, ?_⟩) hHeld ?_
              rotate_left 2
              · simp only [List.getElem?_toArray, List.getElem?_cons_succ, List.getElem?_cons_zero]; rfl
              · exact fun _ _ _ h => h
              · rfl
              · intro w hSw; (try dsimp only at hSw); go_simp; try (with_reducible rfl)
              try simp only [Act.put, List.setIfInBounds_toArray, List.set_cons_zero, List.set_cons_succ]
              refine wpAnyH_take (i := 6) (oi := ?_) (v := ?_) ?_ (by kernel_rfl) (by kernel_rfl) (by kernel_rfl) ?_ (Or.inl ⟨?_, ?_⟩) hHeld ?_
              rotate_left 2
              · simp only [List.getElem?_toArray, List.getElem?_cons_succ, List.getElem?_cons_zero]; rfl
              · exact fun _ _ _ h => h
              · rfl
              · intro w hSw; (try dsimp only at hSw); go_simp; try (with_reducible rfl)
              try simp only [Act.put, List.setIfInBounds_toArray, List.set_cons_zero, List.set_cons_succ]
              refine wpAnyH_ready (rs := [7]) (by kernel_rfl) (by simp) ?_
              refine AllReadyH.cons (o := ?_) ?_ (fun K hK => ?_) ?_
              rotate_left
              · simp only [List.getElem?_toArray, List.getElem?_cons_succ, List.getElem?_cons_zero]; rfl
              · go_simp
                refine (good_any _ (HE2.out _ HS5.out.drew.mod) v Wd (some ⟨g, 0, none⟩) 1 1 [nums Rd] HS5.out.drew.txt rfl HEsz.out (by intro l hl; simp at hl; subst hl; exact HTsz.out) (by simp)).mono ?_
                rintro e w9 ⟨rfl, hm9⟩
                rw [HGd.out]
                have HS9 := Lib.hid (HS5.out.drew.quiet hm9)
                clear k0 k1 k2 z0 z1 z2 hm9
                have k0 := blk_cell HS9.out.row 0
                have k1 := blk_cell HS9.out.row 1
                have k2 := blk_cell HS9.out.row 2
                have z0 := blk_free HS9.out.row 0
                have z1 := blk_free HS9.out.row 1
                have z2 := blk_free HS9.out.row 2
                go_wp2_with fail
                refine hK.out _ _ (⟨k0, k1, k2⟩) ?_
                clear hK K hHeld
                intro hHeld
                try simp only [Act.put, List.setIfInBounds_toArray, List.set_cons_zero, List.set_cons_succ]
                refine wpAnyH_take (i := 8) (oi := ?_) (v := ?_) ?_ (by kernel_rfl) (by kernel_rfl) (by kernel_rfl) ?_ (Or.inl ⟨?_, ?_⟩) hHeld ?_
                rotate_left 2
                · simp only [List.getElem?_toArray, List.getElem?_cons_succ, List.getElem?_cons_zero]; rfl
                · exact fun _ _ _ h => h
                · rfl
                · intro w hSw; (try dsimp only at hSw); go_simp; try (with_reducible rfl)
                try simp only [Act.put, List.setIfInBounds_toArray, List.set_cons_zero, List.set_cons_succ]
                refine wpAnyH_ready (rs := [9]) (by kernel_rfl) (by simp) ?_
                refine AllReadyH.cons (o := ?_) ?_ (fun K hK => ?_) ?_
                rotate_left
                · simp only [List.getElem?_toArray, List.getElem?_cons_succ, List.getElem?_cons_zero]; rfl
                · go_simp
                  refine hK.out _ _ (HS9.out.keep) ?_
                  clear hK K hHeld
                  intro hHeld
                  try simp only [Act.put, List.setIfInBounds_toArray, List.set_cons_zero, List.set_cons_succ]
                  refine wpAnyH_take (i := 10) (oi := ?_) (v := ?_) ?_ (by kernel_rfl) (by kernel_rfl) (by kernel_rfl) ?_ (Or.inl ⟨?_, ?_⟩) hHeld ?_
                  rotate_left 2
                  · simp only [List.getElem?_toArray, List.getElem?_cons_succ, List.getElem?_cons_zero]; rfl
                  · exact fun _ _ _ h => h
                  · rfl
                  · intro w hSw; (try dsimp only at hSw); go_simp; try (with_reducible rfl)
                  try simp only [Act.put, List.setIfInBounds_toArray, List.set_cons_zero, List.set_cons_succ]
                  refine wpAnyH_take (i := 11) (oi := ?_) (v := ?_) ?_ (by kernel_rfl) (by kernel_rfl) (by kernel_rfl) ?_ (Or.inl ⟨?_, ?_⟩) hHeld ?_
                  rotate_left 2
                  · simp only [List.getElem?_toArray, List.getElem?_cons_succ, List.getElem?_cons_zero]; rfl
                  · exact fun _ _ _ h => h
                  · rfl
                  · intro w hSw; (try dsimp only at hSw); go_simp; try (with_reducible rfl)
                  try simp only [Act.put, List.setIfInBounds_toArray, List.set_cons_zero, List.set_cons_succ]
                  refine wpAnyH_done (by kernel_rfl) ?_ _
                  clear hHeld
                  go_wp2_with fail
                  refine bodyPost_ret (v := .tuple #[.agg (repC v Wd (some ⟨g, 0, none⟩) 1 1), .bool true, .bool false]) (res_cell_tmp2_row rfl _ _ w.heap.size 24 _ (0, 0) _ rfl HS9.out.fin_row Tryd.underlying24 rfl rep_size _ _ rfl rfl) rfl (one_fail HF.out HS9.out.fin_mod)
                exact AllReadyH.nil
              exact AllReadyH.nil
            · have HGd := Lib.hid (show goodB ⟨(v : Int), nums Wd, [nums Rd]⟩ = true by rw [HWl.out, HRl.out]; exact hg)
              have HF := Lib.hid (hone2.trans hg)
              clear hg hone2
              go_enter Tryd.func30, Tryd.ntmps30
              go_wp2_with (go_at_call 33; refine HNum.out.mono ?_; rintro e w1 ⟨rfl, hm1⟩; have HM1 := Lib.hid (HM0.out.trans hm1); have HR1 := Lib.hid (hm1.row HN0.out (by simp)); have k0 := blk_cell HR1.out 0; have z0 := blk_free HR1.out 0; have k1 := blk_cell HR1.out 1; have z1 := blk_free HR1.out 1; have k2 := blk_cell HR1.out 2; have z2 := blk_free HR1.out 2; have hlt0 := blk_lt HR1.out; clear hm1; unfold numV)
              have hr1 := blk_set HR1.out 0 (.int .i64 v)
              have hmc : Mod [w.heap.size] w (w1.setCell ⟨w.heap.size, 0, none⟩ (.int .i64 v)) := (HM1.out.mono (by simp)).setCell (Or.inl (by simp)) _
              have HCut := Lib.hid (ccut_any T _ (HE2.out _ hmc) HTs.out)
              rw [HWn.out, HRn.out, HBn.out] at HCut
              have HMc := Lib.hid hmc
              have HRc := Lib.hid (show (w1.setCell ⟨w.heap.size, 0, none⟩ (.int .i64 v)).heap[w.heap.size]? = some (.cells (repC v ByteArray.empty none 0 0) 24 (0, 0)) from hr1)
              clear hr1 hmc
              refine HCut.out.mono ?_
              rintro e w2 ⟨rfl, hm2⟩
              have HR2 := Lib.hid (hm2.row HRc.out (by simp))
              have HM2 := Lib.hid (HMc.out.trans (hm2.mono (by simp)))
              have hlt2 := blk_lt HR2.out
              clear k0 k1 k2 z0 z1 z2 hm2 hlt0
              have k0 := blk_cell HR2.out 0
              have k1 := blk_cell HR2.out 1
              have k2 := blk_cell HR2.out 2
              have z0 := blk_free HR2.out 0
              have z1 := blk_free HR2.out 1
              have z2 := blk_free HR2.out 2
              go_wp2_with fail
              have hs4 : Sgl w w.heap.size v Wd (nums Rd) w2.heap.size (((w2.setCell ⟨w.heap.size, 1, none⟩ (.string Wd)).setCell ⟨w.heap.size, 2, none⟩ (.slice (some ⟨w2.heap.size, 0, none⟩) 1 1)).alloc (.cells #[.string Rd] 9)) :=
                ⟨((Mod.refl [] _).alloc _).row (erow HR2.out) (by simp), new_text _ _ (by simp) Rd, ((HM2.out.setCell (Or.inl (by simp)) _).setCell (Or.inl (by simp)) _).alloc _, by omega⟩
              generalize ((w2.setCell ⟨w.heap.size, 1, none⟩ (.string Wd)).setCell ⟨w.heap.size, 2, none⟩ (.slice (some ⟨w2.heap.size, 0, none⟩) 1 1)).alloc (.cells #[.string Rd] 9) = w4 at *
              generalize w2.heap.size = g at *
              have HS5 := Lib.hid hs4
              clear k0 k1 k2 z0 z1 z2 hs4
              have k0 := blk_cell HS5.out.row 0
              have k1 := blk_cell HS5.out.row 1
              have k2 := blk_cell HS5.out.row 2
              have z0 := blk_free HS5.out.row 0
              have z1 := blk_free HS5.out.row 1
              have z2 := blk_free HS5.out.row 2
              refine wp_region_held_drew (S := (fun W => W.cell? ⟨w.heap.size, 0, none⟩ = some (.int .i64 v) ∧ W.cell? ⟨w.heap.size, 1, none⟩ = some (.string Wd) ∧ W.cell? ⟨w.heap.size, 2, none⟩ = some (.slice (some ⟨g, 0, none⟩) 1 1))) (by kernel_rfl) (⟨k0, k1, k2⟩) (fun hHeld => ?_)
              refine wpAnyH_take (i := 0) (oi := ?_) (v := ?_) ?_ (by kernel_rfl) (by kernel_rfl) (by kernel_rfl) ?_ (Or.inl ⟨?_, ?_⟩) hHeld ?_
              rotate_left 2
              · simp only [List.getElem?_toArray, List.getElem?_cons_succ, List.getElem?_cons_zero]; rfl
              · exact fun _ _ _ h => h
              · rfl
              · intro w hSw; (try dsimp only at hSw); go_simp; try (with_reducible rfl)
              try simp only [Act.put, List.setIfInBounds_toArray, List.set_cons_zero, List.set_cons_succ]
              refine wpAnyH_take (i := 1) (oi := ?_) (v := ?_) ?_ (by kernel_rfl) (by kernel_rfl) (by kernel_rfl) ?_ (Or.inl ⟨?_, ?_⟩) hHeld ?_
              rotate_left 2
              · simp only [List.getElem?_toArray, List.getElem?_cons_succ, List.getElem?_cons_zero]; rfl
              · exact fun _ _ _ h => h
              · rfl
              · intro w hSw; (try dsimp only at hSw); go_simp; try (with_reducible rfl)
              try simp only [Act.put, List.setIfInBounds_toArray, List.set_cons_zero, List.set_cons_succ]
              refine wpAnyH_take (i := 2) (oi := ?_) (v := ?_) ?_ (by kernel_rfl) (by kernel_rfl) (by kernel_rfl) ?_ (Or.inl ⟨?_, ?_⟩) hHeld ?_
              rotate_left 2
              · simp only [List.getElem?_toArray, List.getElem?_cons_succ, List.getElem?_cons_zero]; rfl
              · exact fun _ _ _ h => h
              · rfl
              · intro w hSw; (try dsimp only at hSw); go_simp; try (with_reducible rfl)
              try simp only [Act.put, List.setIfInBounds_toArray, List.set_cons_zero, List.set_cons_succ]
              refine wpAnyH_take (i := 3) (oi := ?_) (v := ?_) ?_ (by kernel_rfl) (by kernel_rfl) (by kernel_rfl) ?_ (Or.inl ⟨?_, ?_⟩) hHeld ?_
              rotate_left 2
              · simp only [List.getElem?_toArray, List.getElem?_cons_succ, List.getElem?_cons_zero]; rfl
              · exact fun _ _ _ h => h
              · rfl
              · intro w hSw; (try dsimp only at hSw); go_simp; try (with_reducible rfl)
              try simp only [Act.put, List.setIfInBounds_toArray, List.set_cons_zero, List.set_cons_succ]
              refine wpAnyH_take (i := 4) (oi := ?_) (v := ?_) ?_ (by kernel_rfl) (by kernel_rfl) (by kernel_rfl) ?_ (Or.inl ⟨?_, ?_⟩) hHeld ?_
              rotate_left 2
              · simp only [List.getElem?_toArray, List.getElem?_cons_succ, List.getElem?_cons_zero]; rfl
              · exact fun _ _ _ h => h
              · rfl
              · intro w hSw; (try dsimp only at hSw); go_simp; try (with_reducible rfl)
              try simp only [Act.put, List.setIfInBounds_toArray, List.set_cons_zero, List.set_cons_succ]
              refine wpAnyH_take (i := 5) (oi := ?_) (v := ?_) ?_ (by kernel_rfl) (by kernel_rfl) (by kernel_rfl) ?_ (Or.inl ⟨?_, ?_⟩) hHeld ?_
              rotate_left 2
              · simp only [List.getElem?_toArray, List.getElem?_cons_succ, List.getElem?_cons_zero]; rfl
              · exact fun _ _ _ h => h
              · rfl
              · intro w hSw; (try dsimp only at hSw); go_simp; try (with_reducible rfl)
              try simp only [Act.put, List.setIfInBounds_toArray, List.set_cons_zero, List.set_cons_succ]
              refine wpAnyH_take (i := 6) (oi := ?_) (v := ?_) ?_ (by kernel_rfl) (by kernel_rfl) (by kernel_rfl) ?_ (Or.inl ⟨?_, ?_⟩) hHeld ?_
              rotate_left 2
              · simp only [List.getElem?_toArray, List.getElem?_cons_succ, List.getElem?_cons_zero]; rfl
              · exact fun _ _ _ h => h
              · rfl
              · intro w hSw; (try dsimp only at hSw); go_simp; try (with_reducible rfl)
              try simp only [Act.put, List.setIfInBounds_toArray, List.set_cons_zero, List.set_cons_succ]
              refine wpAnyH_ready (rs := [7]) (by kernel_rfl) (by simp) ?_
              refine AllReadyH.cons (o := ?_) ?_ (fun K hK => ?_) ?_
              rotate_left
              · simp only [List.getElem?_toArray, List.getElem?_cons_succ, List.getElem?_cons_zero]; rfl
              · go_simp
                refine (good_any _ (HE2.out _ HS5.out.drew.mod) v Wd (some ⟨g, 0, none⟩) 1 1 [nums Rd] HS5.out.drew.txt rfl HEsz.out (by intro l hl; simp at hl; subst hl; exact HTsz.out) (by simp)).mono ?_
                rintro e w9 ⟨rfl, hm9⟩
                rw [HGd.out]
                have HS9 := Lib.hid (HS5.out.drew.quiet hm9)
                clear k0 k1 k2 z0 z1 z2 hm9
                have k0 := blk_cell HS9.out.row 0
                have k1 := blk_cell HS9.out.row 1
                have k2 := blk_cell HS9.out.row 2
                have z0 := blk_free HS9.out.row 0
                have z1 := blk_free HS9.out.row 1
                have z2 := blk_free HS9.out.row 2
                go_wp2_with fail
                refine hK.out _ _ (⟨k0, k1, k2⟩) ?_
                clear hK K hHeld
                intro hHeld
                try simp only [Act.put, List.setIfInBounds_toArray, List.set_cons_zero, List.set_cons_succ]
                refine wpAnyH_take (i := 8) (oi := ?_) (v := ?_) ?_ (by kernel_rfl) (by kernel_rfl) (by kernel_rfl) ?_ (Or.inl ⟨?_, ?_⟩) hHeld ?_
                rotate_left 2
                · simp only [List.getElem?_toArray, List.getElem?_cons_succ, List.getElem?_cons_zero]; rfl
                · exact fun _ _ _ h => h
                · rfl
                · intro w hSw; (try dsimp only at hSw); go_simp; try (with_reducible rfl)
                try simp only [Act.put, List.setIfInBounds_toArray, List.set_cons_zero, List.set_cons_succ]
                refine wpAnyH_ready (rs := [9]) (by kernel_rfl) (by simp) ?_
                refine AllReadyH.cons (o := ?_) ?_ (fun K hK => ?_) ?_
                rotate_left
                · simp only [List.getElem?_toArray, List.getElem?_cons_succ, List.getElem?_cons_zero]; rfl
                · go_simp
                  refine hK.out _ _ (HS9.out.keep) ?_
                  clear hK K hHeld
                  intro hHeld
                  try simp only [Act.put, List.setIfInBounds_toArray, List.set_cons_zero, List.set_cons_succ]
                  refine wpAnyH_take (i := 10) (oi := ?_) (v := ?_) ?_ (by kernel_rfl) (by kernel_rfl) (by kernel_rfl) ?_ (Or.inl ⟨?_, ?_⟩) hHeld ?_
                  rotate_left 2
                  · simp only [List.getElem?_toArray, List.getElem?_cons_succ, List.getElem?_cons_zero]; rfl
                  · exact fun _ _ _ h => h
                  · rfl
                  · intro w hSw; (try dsimp only at hSw); go_simp; try (with_reducible rfl)
                  try simp only [Act.put, List.setIfInBounds_toArray, List.set_cons_zero, List.set_cons_succ]
                  refine wpAnyH_take (i := 11) (oi := ?_) (v := ?_) ?_ (by kernel_rfl) (by kernel_rfl) (by kernel_rfl) ?_ (Or.inl ⟨?_, ?_⟩) hHeld ?_
                  rotate_left 2
                  · simp only [List.getElem?_toArray, List.getElem?_cons_succ, List.getElem?_cons_zero]; rfl
                  · exact fun _ _ _ h => h
                  · rfl
                  · intro w hSw; (try dsimp only at hSw); go_simp; try (with_reducible rfl)
                  try simp only [Act.put, List.setIfInBounds_toArray, List.set_cons_zero, List.set_cons_succ]
                  refine wpAnyH_done (by kernel_rfl) ?_ _
                  clear hHeld
                  go_wp2_with fail
                  refine bodyPost_ret (v := .tuple #[.agg (repC v Wd (some ⟨g, 0, none⟩) 1 1), .bool true, .bool true]) (res_cell_tmp2_row rfl _ _ w.heap.size 24 _ (0, 0) _ rfl HS9.out.fin_row Tryd.underlying24 rfl rep_size _ _ rfl rfl) rfl (one_good HF.out (by rw [HV.out]) (by rw [HV.out]; exact HWl.out) (by rw [HV.out]; exact HRl.out) (by rw [HV.out, ← HX.out]; rfl) HS9.out)
                exact AllReadyH.nil
              exact AllReadyH.nil
  · cases enh
    · cases hv : numP ((nums s).take 3) with
      | none =>
        have HF := Lib.hid (one_nonum (enh := false) HS4.out hv)
        rw [HDn.out, hv] at HNum
        clear hv
        go_enter Tryd.func30, Tryd.ntmps30
        go_wp2_with (go_at_call 33; refine HNum.out.mono ?_; rintro e w1 ⟨rfl, hm1⟩; have HM1 := Lib.hid (HM0.out.trans hm1); have HR1 := Lib.hid (hm1.row HN0.out (by simp)); have k0 := blk_cell HR1.out 0; have z0 := blk_free HR1.out 0; have k1 := blk_cell HR1.out 1; have z1 := blk_free HR1.out 1; have k2 := blk_cell HR1.out 2; have z2 := blk_free HR1.out 2; have hlt0 := blk_lt HR1.out; clear hm1; unfold numV)
        have hs4 : Sgl w w.heap.size 0 ByteArray.empty (nums T) w1.heap.size (((w1.setCell ⟨w.heap.size, 0, none⟩ (.int .i64 0)).setCell ⟨w.heap.size, 2, none⟩ (.slice (some ⟨w1.heap.size, 0, none⟩) 1 1)).alloc (.cells #[.string T] 9)) :=
          ⟨((Mod.refl [] _).alloc _).row (srow HR1.out) (by simp), new_text _ _ (by simp) T, (((HM1.out.mono (by simp)).setCell (Or.inl (by simp)) _).setCell (Or.inl (by simp)) _).alloc _, by omega⟩
        generalize ((w1.setCell ⟨w.heap.size, 0, none⟩ (.int .i64 0)).setCell ⟨w.heap.size, 2, none⟩ (.slice (some ⟨w1.heap.size, 0, none⟩) 1 1)).alloc (.cells #[.string T] 9) = w4 at *
        generalize w1.heap.size = g at *
        have HS5 := Lib.hid hs4
        clear k0 k1 k2 z0 z1 z2 hs4
        have k0 := blk_cell HS5.out.row 0
        have k1 := blk_cell HS5.out.row 1
        have k2 := blk_cell HS5.out.row 2
        have z0 := blk_free HS5.out.row 0
        have z1 := blk_free HS5.out.row 1
        have z2 := blk_free HS5.out.row 2
        refine wp_region_held_drew (S := (fun W => W.cell? ⟨w.heap.size, 0, none⟩ = some (.int .i64 0) ∧ W.cell? ⟨w.heap.size, 1, none⟩ = some (.string ByteArray.empty) ∧ W.cell? ⟨w.heap.size, 2, none⟩ = some (.slice (some ⟨g, 0, none⟩) 1 1))) (by kernel_rfl) (⟨k0, k1, k2⟩) (fun hHeld => ?_)
        refine wpAnyH_take (i := 0) (oi := ?_) (v := ?_) ?_ (by kernel_rfl) (by kernel_rfl) (by kernel_rfl) ?_ (Or.inl ⟨?_, ?_⟩) hHeld ?_
        rotate_left 2
        · simp only [List.getElem?_toArray, List.getElem?_cons_succ, List.getElem?_cons_zero]; rfl
        · exact fun _ _ _ h => h
        · rfl
        · intro w hSw; (try dsimp only at hSw); go_simp; try (with_reducible rfl)
        try simp only [Act.put, List.setIfInBounds_toArray, List.set_cons_zero, List.set_cons_succ]
        refine wpAnyH_take (i := 1) (oi := ?_) (v := ?_) ?_ (by kernel_rfl) (by kernel_rfl) (by kernel_rfl) ?_ (Or.inl ⟨?_, ?_⟩) hHeld ?_
        rotate_left 2
        · simp only [List.getElem?_toArray, List.getElem?_cons_succ, List.getElem?_cons_zero]; rfl
        · exact fun _ _ _ h => h
        · rfl
        · intro w hSw; (try dsimp only at hSw); go_simp; try (with_reducible rfl)
        try simp only [Act.put, List.setIfInBounds_toArray, List.set_cons_zero, List.set_cons_succ]
        refine wpAnyH_take (i := 2) (oi := ?_) (v := ?_) ?_ (by kernel_rfl) (by kernel_rfl) (by kernel_rfl) ?_ (Or.inl ⟨?_, ?_⟩) hHeld ?_
        rotate_left 2
        · simp only [List.getElem?_toArray, List.getElem?_cons_succ, List.getElem?_cons_zero]; rfl
        · exact fun _ _ _ h => h
        · rfl
        · intro w hSw; (try dsimp only at hSw); go_simp; try (with_reducible rfl)
        try simp only [Act.put, List.setIfInBounds_toArray, List.set_cons_zero, List.set_cons_succ]
        refine wpAnyH_take (i := 3) (oi := ?_) (v := ?_) ?_ (by kernel_rfl) (by kernel_rfl) (by kernel_rfl) ?_ (Or.inl ⟨?_, ?_⟩) hHeld ?_
        rotate_left 2
        · simp only [List.getElem?_toArray, List.getElem?_cons_succ, List.getElem?_cons_zero]; rfl
        · exact fun _ _ _ h => h
        · rfl
        · intro w hSw; (try dsimp only at hSw); go_simp; try (with_reducible rfl)
        try simp only [Act.put, List.setIfInBounds_toArray, List.set_cons_zero, List.set_cons_succ]
        refine wpAnyH_take (i := 4) (oi := ?_) (v := ?_) ?_ (by kernel_rfl) (by kernel_rfl) (by kernel_rfl) ?_ (Or.inl ⟨?_, ?_⟩) hHeld ?_
        rotate_left 2
        · simp only [List.getElem?_toArray, List.getElem?_cons_succ, List.getElem?_cons_zero]; rfl
        · exact fun _ _ _ h => h
        · rfl
        · intro w hSw; (try dsimp only at hSw); go_simp; try (with_reducible rfl)
        try simp only [Act.put, List.setIfInBounds_toArray, List.set_cons_zero, List.set_cons_succ]
        refine wpAnyH_take (i := 5) (oi := ?_) (v := ?_) ?_ (by kernel_rfl) (by kernel_rfl) (by kernel_rfl) ?_ (Or.inl ⟨?_, ?_⟩) hHeld ?_
        rotate_left 2
        · simp only [List.getElem?_toArray, List.getElem?_cons_succ, List.getElem?_cons_zero]; rfl
        · exact fun _ _ _ h => h
        · rfl
        · intro w hSw; (try dsimp only at hSw); go_simp; try (with_reducible rfl)
        try simp only [Act.put, List.setIfInBounds_toArray, List.set_cons_zero, List.set_cons_succ]
        refine wpAnyH_take (i := 6) (oi := ?_) (v := ?_) ?_ (by kernel_rfl) (by kernel_rfl) (by kernel_rfl) ?_ (Or.inr ⟨?_, ?_⟩) hHeld ?_
        rotate_left 2
        · simp only [List.getElem?_toArray, List.getElem?_cons_succ, List.getElem?_cons_zero]; rfl
        · exact fun _ _ _ h => h
        · kernel_rfl
        · rfl
        try simp only [Act.put, List.setIfInBounds_toArray, List.set_cons_zero, List.set_cons_succ]
        refine wpAnyH_take (i := 7) (oi := ?_) (v := ?_) ?_ (by kernel_rfl) (by kernel_rfl) (by kernel_rfl) ?_ (Or.inr ⟨?_, ?_⟩) hHeld ?_
        rotate_left 2
        · simp only [List.getElem?_toArray, List.getElem?_cons_succ, List.getElem?_cons_zero]; rfl
        · exact fun _ _ _ h => h
        · kernel_rfl
        · rfl
        try simp only [Act.put, List.setIfInBounds_toArray, List.set_cons_zero, List.set_cons_succ]
        refine wpAnyH_take (i := 8) (oi := ?_) (v := ?_) ?_ (by kernel_rfl) (by kernel_rfl) (by kernel_rfl) ?_ (Or.inl ⟨?_, ?_⟩) hHeld ?_
        rotate_left 2
        · simp only [List.getElem?_toArray, List.getElem?_cons_succ, List.getElem?_cons_zero]; rfl
        · exact fun _ _ _ h => h
        · rfl
        · intro w hSw; (try dsimp only at hSw); go_simp; try (with_reducible rfl)
        try simp only [Act.put, List.setIfInBounds_toArray, List.set_cons_zero, List.set_cons_succ]
        refine wpAnyH_ready (rs := [9]) (by kernel_rfl) (by simp) ?_
        refine AllReadyH.cons (o := ?_) ?_ (fun K hK => ?_) ?_
        rotate_left
        · simp only [List.getElem?_toArray, List.getElem?_cons_succ, List.getElem?_cons_zero]; rfl
        · go_simp
          refine hK.out _ _ (HS5.out.drew.keep) ?_
          clear hK K hHeld
          intro hHeld
          try simp only [Act.put, List.setIfInBounds_toArray, List.set_cons_zero, List.set_cons_succ]
          refine wpAnyH_take (i := 10) (oi := ?_) (v := ?_) ?_ (by kernel_rfl) (by kernel_rfl) (by kernel_rfl) ?_ (Or.inl ⟨?_, ?_⟩) hHeld ?_
          rotate_left 2
          · simp only [List.getElem?_toArray, List.getElem?_cons_succ, List.getElem?_cons_zero]; rfl
          · exact fun _ _ _ h => h
          · rfl
          · intro w hSw; (try dsimp only at hSw); go_simp; try (with_reducible rfl)
          try simp only [Act.put, List.setIfInBounds_toArray, List.set_cons_zero, List.set_cons_succ]
          refine wpAnyH_take (i := 11) (oi := ?_) (v := ?_) ?_ (by kernel_rfl) (by kernel_rfl) (by kernel_rfl) ?_ (Or.inl ⟨?_, ?_⟩) hHeld ?_
          rotate_left 2
          · simp only [List.getElem?_toArray, List.getElem?_cons_succ, List.getElem?_cons_zero]; rfl
          · exact fun _ _ _ h => h
          · rfl
          · intro w hSw; (try dsimp only at hSw); go_simp; try (with_reducible rfl)
          try simp only [Act.put, List.setIfInBounds_toArray, List.set_cons_zero, List.set_cons_succ]
          refine wpAnyH_done (by kernel_rfl) ?_ _
          clear hHeld
          go_wp2_with fail
          refine bodyPost_ret (v := .tuple #[.agg (repC 0 ByteArray.empty (some ⟨g, 0, none⟩) 1 1), .bool false, .bool false]) (res_cell_tmp2_row rfl _ _ w.heap.size 24 _ (0, 0) _ rfl HS5.out.drew.fin_row Tryd.underlying24 rfl rep_size _ _ rfl rfl) rfl (one_fail HF.out HS5.out.drew.fin_mod)
        exact AllReadyH.nil
      | some v =>
        have hone := one_plain HS4.out HS3.out hv
        have HV := Lib.hid hone.2
        have HEsz := Lib.hid (show ByteArray.empty.size ≤ 100000 by decide)
        have HTsz := Lib.hid (show (nums T).length ≤ 100000 by rw [nums_length]; exact HTs.out)
        rw [HDn.out, hv] at HNum
        clear hv
        cases hg : goodB ⟨(v : Int), [], [(nums s).drop 4]⟩
        · have HGd := Lib.hid (show goodB ⟨(v : Int), nums ByteArray.empty, [nums T]⟩ = false by rw [HTn.out]; exact hg)
          have HF := Lib.hid (hone.1.trans hg)
          clear hg hone
          go_enter Tryd.func30, Tryd.ntmps30
          go_wp2_with (go_at_call 33; refine HNum.out.mono ?_; rintro e w1 ⟨rfl, hm1⟩; have HM1 := Lib.hid (HM0.out.trans hm1); have HR1 := Lib.hid (hm1.row HN0.out (by simp)); have k0 := blk_cell HR1.out 0; have z0 := blk_free HR1.out 0; have k1 := blk_cell HR1.out 1; have z1 := blk_free HR1.out 1; have k2 := blk_cell HR1.out 2; have z2 := blk_free HR1.out 2; have hlt0 := blk_lt HR1.out; clear hm1; unfold numV)
          have hs4 : Sgl w w.heap.size v ByteArray.empty (nums T) w1.heap.size (((w1.setCell ⟨w.heap.size, 0, none⟩ (.int .i64 v)).setCell ⟨w.heap.size, 2, none⟩ (.slice (some ⟨w1.heap.size, 0, none⟩) 1 1)).alloc (.cells #[.string T] 9)) :=
            ⟨((Mod.refl [] _).alloc _).row (srow HR1.out) (by simp), new_text _ _ (by simp) T, (((HM1.out.mono (by simp)).setCell (Or.inl (by simp)) _).setCell (Or.inl (by simp)) _).alloc _, by omega⟩
          generalize ((w1.setCell ⟨w.heap.size, 0, none⟩ (.int .i64 v)).setCell ⟨w.heap.size, 2, none⟩ (.slice (some ⟨w1.heap.size, 0, none⟩) 1 1)).alloc (.cells #[.string T] 9) = w4 at *
          generalize w1.heap.size = g at *
          have HS5 := Lib.hid hs4
          clear k0 k1 k2 z0 z1 z2 hs4
          have k0 := blk_cell HS5.out.row 0
          have k1 := blk_cell HS5.out.row 1
          have k2 := blk_cell HS5.out.row 2
          have z0 := blk_free HS5.out.row 0
          have z1 := blk_free HS5.out.row 1
          have z2 := blk_free HS5.out.row 2
          refine wp_region_held_drew (S := (fun W => W.cell? ⟨w.heap.size, 0, none⟩ = some (.int .i64 v) ∧ W.cell? ⟨w.heap.size, 1, none⟩ = some (.string ByteArray.empty) ∧ W.cell? ⟨w.heap.size, 2, none⟩ = some (.slice (some ⟨g, 0, none⟩) 1 1))) (by kernel_rfl) (⟨k0, k1, k2⟩) (fun hHeld => ?_)
          refine wpAnyH_take (i := 0) (oi := ?_) (v := ?_) ?_ (by kernel_rfl) (by kernel_rfl) (by kernel_rfl) ?_ (Or.inl ⟨?_, ?_⟩) hHeld ?_
          rotate_left 2
          · simp only [List.getElem?_toArray, List.getElem?_cons_succ, List.getElem?_cons_zero]; rfl
          · exact fun _ _ _ h => h
          · rfl
          · intro w hSw; (try dsimp only at hSw); go_simp; try (with_reducible rfl)
          try simp only [Act.put, List.setIfInBounds_toArray, List.set_cons_zero, List.set_cons_succ]
          refine wpAnyH_take (i := 1) (oi := ?_) (v := ?_) ?_ (by kernel_rfl) (by kernel_rfl) (by kernel_rfl) ?_ (Or.inl ⟨?_, ?_⟩) hHeld ?_
          rotate_left 2
          · simp only [List.getElem?_toArray, List.getElem?_cons_succ, List.getElem?_cons_zero]; rfl
          · exact fun _ _ _ h => h
          · rfl
          · intro w hSw; (try dsimp only at hSw); go_simp; try (with_reducible rfl)
          try simp only [Act.put, List.setIfInBounds_toArray, List.set_cons_zero, List.set_cons_succ]
          refine wpAnyH_take (i := 2) (oi := ?_) (v := ?_) ?_ (by kernel_rfl) (by kernel_rfl) (by kernel_rfl) ?_ (Or.inl ⟨?_, ?_⟩) hHeld ?_
          rotate_left 2
          · simp only [List.getElem?_toArray, List.getElem?_cons_succ, List.getElem?_cons_zero]; rfl
          · exact fun _ _ _ h => h
          · rfl
          · intro w hSw; (try dsimp only at hSw); go_simp; try (with_reducible rfl)
          try simp only [Act.put, List.setIfInBounds_toArray, List.set_cons_zero, List.set_cons_succ]
          refine wpAnyH_take (i := 3) (oi := ?_) (v := ?_) ?_ (by kernel_rfl) (by kernel_rfl) (by kernel_rfl) ?_ (Or.inl ⟨?_, ?_⟩) hHeld ?_
          rotate_left 2
          · simp only [List.getElem?_toArray, List.getElem?_cons_succ, List.getElem?_cons_zero]; rfl
          · exact fun _ _ _ h => h
          · rfl
          · intro w hSw; (try dsimp only at hSw); go_simp; try (with_reducible rfl)
          try simp only [Act.put, List.setIfInBounds_toArray, List.set_cons_zero, List.set_cons_succ]
          refine wpAnyH_take (i := 4) (oi := ?_) (v := ?_) ?_ (by kernel_rfl) (by kernel_rfl) (by kernel_rfl) ?_ (Or.inl ⟨?_, ?_⟩) hHeld ?_
          rotate_left 2
          · simp only [List.getElem?_toArray, List.getElem?_cons_succ, List.getElem?_cons_zero]; rfl
          · exact fun _ _ _ h => h
          · rfl
          · intro w hSw; (try dsimp only at hSw); go_simp; try (with_reducible rfl)
          try simp only [Act.put, List.setIfInBounds_toArray, List.set_cons_zero, List.set_cons_succ]
          refine wpAnyH_take (i := 5) (oi := ?_) (v := ?_) ?_ (by kernel_rfl) (by kernel_rfl) (by kernel_rfl) ?_ (Or.inl ⟨?_, ?_⟩) hHeld ?_
          rotate_left 2
          · simp only [List.getElem?_toArray, List.getElem?_cons_succ, List.getElem?_cons_zero]; rfl
          · exact fun _ _ _ h => h
          · rfl
          · intro w hSw; (try dsimp only at hSw); go_simp; try (with_reducible rfl)
          try simp only [Act.put, List.setIfInBounds_toArray, List.set_cons_zero, List.set_cons_succ]
          refine wpAnyH_take (i := 6) (oi := ?_) (v := ?_) ?_ (by kernel_rfl) (by kernel_rfl) (by kernel_rfl) ?_ (Or.inl ⟨?_, ?_⟩) hHeld ?_
          rotate_left 2
          · simp only [List.getElem?_toArray, List.getElem?_cons_succ, List.getElem?_cons_zero]; rfl
          · exact fun _ _ _ h => h
          · rfl
          · intro w hSw; (try dsimp only at hSw); go_simp; try (with_reducible rfl)
          try simp only [Act.put, List.setIfInBounds_toArray, List.set_cons_zero, List.set_cons_succ]
          refine wpAnyH_ready (rs := [7]) (by kernel_rfl) (by simp) ?_
          refine AllReadyH.cons (o := ?_) ?_ (fun K hK => ?_) ?_
          rotate_left
          · simp only [List.getElem?_toArray, List.getElem?_cons_succ, List.getElem?_cons_zero]; rfl
          · go_simp
            refine (good_any _ (HE2.out _ HS5.out.drew.mod) v ByteArray.empty (some ⟨g, 0, none⟩) 1 1 [nums T] HS5.out.drew.txt rfl HEsz.out (by intro l hl; simp at hl; subst hl; exact HTsz.out) (by simp)).mono ?_
            rintro e w9 ⟨rfl, hm9⟩
            rw [HGd.out]
            have HS9 := Lib.hid (HS5.out.drew.quiet hm9)
            clear k0 k1 k2 z0 z1 z2 hm9
            have k0 := blk_cell HS9.out.row 0
            have k1 := blk_cell HS9.out.row 1
            have k2 := blk_cell HS9.out.row 2
            have z0 := blk_free HS9.out.row 0
            have z1 := blk_free HS9.out.row 1
            have z2 := blk_free HS9.out.row 2
            go_wp2_with fail
            refine hK.out _ _ (⟨k0, k1, k2⟩) ?_
            clear hK K hHeld
            intro hHeld
            try simp only [Act.put, List.setIfInBounds_toArray, List.set_cons_zero, List.set_cons_succ]
            refine wpAnyH_take (i := 8) (oi := ?_) (v := ?_) ?_ (by kernel_rfl) (by kernel_rfl) (by kernel_rfl) ?_ (Or.inl ⟨?_, ?_⟩) hHeld ?_
            rotate_left 2
            · simp only [List.getElem?_toArray, List.getElem?_cons_succ, List.getElem?_cons_zero]; rfl
            · exact fun _ _ _ h => h
            · rfl
            · intro w hSw; (try dsimp only at hSw); go_simp; try (with_reducible rfl)
            try simp only [Act.put, List.setIfInBounds_toArray, List.set_cons_zero, List.set_cons_succ]
            refine wpAnyH_ready (rs := [9]) (by kernel_rfl) (by simp) ?_
            refine AllReadyH.cons (o := ?_) ?_ (fun K hK => ?_) ?_
            rotate_left
            · simp only [List.getElem?_toArray, List.getElem?_cons_succ, List.getElem?_cons_zero]; rfl
            · go_simp
              refine hK.out _ _ (HS9.out.keep) ?_
              clear hK K hHeld
              intro hHeld
              try simp only [Act.put, List.setIfInBounds_toArray, List.set_cons_zero, List.set_cons_succ]
              refine wpAnyH_take (i := 10) (oi := ?_) (v := ?_) ?_ (by kernel_rfl) (by kernel_rfl) (by kernel_rfl) ?_ (Or.inl ⟨?_, ?_⟩) hHeld ?_
              rotate_left 2
              · simp only [List.getElem?_toArray, List.getElem?_cons_succ, List.getElem?_cons_zero]; rfl
              · exact fun _ _ _ h => h
              · rfl
              · intro w hSw; (try dsimp only at hSw); go_simp; try (with_reducible rfl)
              try simp only [Act.put, List.setIfInBounds_toArray, List.set_cons_zero, List.set_cons_succ]
              refine wpAnyH_take (i := 11) (oi := ?_) (v := ?_) ?_ (by kernel_rfl) (by kernel_rfl) (by kernel_rfl) ?_ (Or.inl ⟨?_, ?_⟩) hHeld ?_
              rotate_left 2
              · simp only [List.getElem?_toArray, List.getElem?_cons_succ, List.getElem?_cons_zero]; rfl
              · exact fun _ _ _ h => h
              · rfl
              · intro w hSw; (try dsimp only at hSw); go_simp; try (with_reducible rfl)
              try simp only [Act.put, List.setIfInBounds_toArray, List.set_cons_zero, List.set_cons_succ]
              refine wpAnyH_done (by kernel_rfl) ?_ _
              clear hHeld
              go_wp2_with fail
              refine bodyPost_ret (v := .tuple #[.agg (repC v ByteArray.empty (some ⟨g, 0, none⟩) 1 1), .bool false, .bool false]) (res_cell_tmp2_row rfl _ _ w.heap.size 24 _ (0, 0) _ rfl HS9.out.fin_row Tryd.underlying24 rfl rep_size _ _ rfl rfl) rfl (one_fail HF.out HS9.out.fin_mod)
            exact AllReadyH.nil
          exact AllReadyH.nil
        · have HGd := Lib.hid (show goodB ⟨(v : Int), nums ByteArray.empty, [nums T]⟩ = true by rw [HTn.out]; exact hg)
          have HF := Lib.hid (hone.1.trans hg)
          clear hg hone
          go_enter Tryd.func30, Tryd.ntmps30
          go_wp2_with (go_at_call 33; refine HNum.out.mono ?_; rintro e w1 ⟨rfl, hm1⟩; have HM1 := Lib.hid (HM0.out.trans hm1); have HR1 := Lib.hid (hm1.row HN0.out (by simp)); have k0 := blk_cell HR1.out 0; have z0 := blk_free HR1.out 0; have k1 := blk_cell HR1.out 1; have z1 := blk_free HR1.out 1; have k2 := blk_cell HR1.out 2; have z2 := blk_free HR1.out 2; have hlt0 := blk_lt HR1.out; clear hm1; unfold numV)
          have hs4 : Sgl w w.heap.size v ByteArray.empty (nums T) w1.heap.size (((w1.setCell ⟨w.heap.size, 0, none⟩ (.int .i64 v)).setCell ⟨w.heap.size, 2, none⟩ (.slice (some ⟨w1.heap.size, 0, none⟩) 1 1)).alloc (.cells #[.string T] 9)) :=
            ⟨((Mod.refl [] _).alloc _).row (srow HR1.out) (by simp), new_text _ _ (by simp) T, (((HM1.out.mono (by simp)).setCell (Or.inl (by simp)) _).setCell (Or.inl (by simp)) _).alloc _, by omega⟩
          generalize ((w1.setCell ⟨w.heap.size, 0, none⟩ (.int .i64 v)).setCell ⟨w.heap.size, 2, none⟩ (.slice (some ⟨w1.heap.size, 0, none⟩) 1 1)).alloc (.cells #[.string T] 9) = w4 at *
          generalize w1.heap.size = g at *
          have HS5 := Lib.hid hs4
          clear k0 k1 k2 z0 z1 z2 hs4
          have k0 := blk_cell HS5.out.row 0
          have k1 := blk_cell HS5.out.row 1
          have k2 := blk_cell HS5.out.row 2
          have z0 := blk_free HS5.out.row 0
          have z1 := blk_free HS5.out.row 1
          have z2 := blk_free HS5.out.row 2
          refine wp_region_held_drew (S := (fun W => W.cell? ⟨w.heap.size, 0, none⟩ = some (.int .i64 v) ∧ W.cell? ⟨w.heap.size, 1, none⟩ = some (.string ByteArray.empty) ∧ W.cell? ⟨w.heap.size, 2, none⟩ = some (.slice (some ⟨g, 0, none⟩) 1 1))) (by kernel_rfl) (⟨k0, k1, k2⟩) (fun hHeld => ?_)
          refine wpAnyH_take (i := 0) (oi := ?_) (v := ?_) ?_ (by kernel_rfl) (by kernel_rfl) (by kernel_rfl) ?_ (Or.inl ⟨?_, ?_⟩) hHeld ?_
          rotate_left 2
          · simp only [List.getElem?_toArray, List.getElem?_cons_succ, List.getElem?_cons_zero]; rfl
          · exact fun _ _ _ h => h
          · rfl
          · intro w hSw; (try dsimp only at hSw); go_simp; try (with_reducible rfl)
          try simp only [Act.put, List.setIfInBounds_toArray, List.set_cons_zero, List.set_cons_succ]
          refine wpAnyH_take (i := 1) (oi := ?_) (v := ?_) ?_ (by kernel_rfl) (by kernel_rfl) (by kernel_rfl) ?_ (Or.inl ⟨?_, ?_⟩) hHeld ?_
          rotate_left 2
          · simp only [List.getElem?_toArray, List.getElem?_cons_succ, List.getElem?_cons_zero]; rfl
          · exact fun _ _ _ h => h
          · rfl
          · intro w hSw; (try dsimp only at hSw); go_simp; try (with_reducible rfl)
          try simp only [Act.put, List.setIfInBounds_toArray, List.set_cons_zero, List.set_cons_succ]
          refine wpAnyH_take (i := 2) (oi := ?_) (v := ?_) ?_ (by kernel_rfl) (by kernel_rfl) (by kernel_rfl) ?_ (Or.inl ⟨?_, ?_⟩) hHeld ?_
          rotate_left 2
          · simp only [List.getElem?_toArray, List.getElem?_cons_succ, List.getElem?_cons_zero]; rfl
          · exact fun _ _ _ h => h
          · rfl
          · intro w hSw; (try dsimp only at hSw); go_simp; try (with_reducible rfl)
          try simp only [Act.put, List.setIfInBounds_toArray, List.set_cons_zero, List.set_cons_succ]
          refine wpAnyH_take (i := 3) (oi := ?_) (v := ?_) ?_ (by kernel_rfl) (by kernel_rfl) (by kernel_rfl) ?_ (Or.inl ⟨?_, ?_⟩) hHeld ?_
          rotate_left 2
          · simp only [List.getElem?_toArray, List.getElem?_cons_succ, List.getElem?_cons_zero]; rfl
          · exact fun _ _ _ h => h
          · rfl
          · intro w hSw; (try dsimp only at hSw); go_simp; try (with_reducible rfl)
          try simp only [Act.put, List.setIfInBounds_toArray, List.set_cons_zero, List.set_cons_succ]
          refine wpAnyH_take (i := 4) (oi := ?_) (v := ?_) ?_ (by kernel_rfl) (by kernel_rfl) (by kernel_rfl) ?_ (Or.inl ⟨?_, ?_⟩) hHeld ?_
          rotate_left 2
          · simp only [List.getElem?_toArray, List.getElem?_cons_succ, List.getElem?_cons_zero]; rfl
          · exact fun _ _ _ h => h
          · rfl
          · intro w hSw; (try dsimp only at hSw); go_simp; try (with_reducible rfl)
          try simp only [Act.put, List.setIfInBounds_toArray, List.set_cons_zero, List.set_cons_succ]
          refine wpAnyH_take (i := 5) (oi := ?_) (v := ?_) ?_ (by kernel_rfl) (by kernel_rfl) (by kernel_rfl) ?_ (Or.inl ⟨?_, ?_⟩) hHeld ?_
          rotate_left 2
          · simp only [List.getElem?_toArray, List.getElem?_cons_succ, List.getElem?_cons_zero]; rfl
          · exact fun _ _ _ h => h
          · rfl
          · intro w hSw; (try dsimp only at hSw); go_simp; try (with_reducible rfl)
          try simp only [Act.put, List.setIfInBounds_toArray, List.set_cons_zero, List.set_cons_succ]
          refine wpAnyH_take (i := 6) (oi := ?_) (v := ?_) ?_ (by kernel_rfl) (by kernel_rfl) (by kernel_rfl) ?_ (Or.inl ⟨?_, ?_⟩) hHeld ?_
          rotate_left 2
          · simp only [List.getElem?_toArray, List.getElem?_cons_succ, List.getElem?_cons_zero]; rfl
          · exact fun _ _ _ h => h
          · rfl
          · intro w hSw; (try dsimp only at hSw); go_simp; try (with_reducible rfl)
          try simp only [Act.put, List.setIfInBounds_toArray, List.set_cons_zero, List.set_cons_succ]
          refine wpAnyH_ready (rs := [7]) (by kernel_rfl) (by simp) ?_
          refine AllReadyH.cons (o := ?_) ?_ (fun K hK => ?_) ?_
          rotate_left
          · simp only [List.getElem?_toArray, List.getElem?_cons_succ, List.getElem?_cons_zero]; rfl
          · go_simp
            refine (good_any _ (HE2.out _ HS5.out.drew.mod) v ByteArray.empty (some ⟨g, 0, none⟩) 1 1 [nums T] HS5.out.drew.txt rfl HEsz.out (by intro l hl; simp at hl; subst hl; exact HTsz.out) (by simp)).mono ?_
            rintro e w9 ⟨rfl, hm9⟩
            rw [HGd.out]
            have HS9 := Lib.hid (HS5.out.drew.quiet hm9)
            clear k0 k1 k2 z0 z1 z2 hm9
            have k0 := blk_cell HS9.out.row 0
            have k1 := blk_cell HS9.out.row 1
            have k2 := blk_cell HS9.out.row 2
            have z0 := blk_free HS9.out.row 0
            have z1 := blk_free HS9.out.row 1
            have z2 := blk_free HS9.out.row 2
            go_wp2_with fail
            refine hK.out _ _ (⟨k0, k1, k2⟩) ?_
            clear hK K hHeld
            intro hHeld
            try simp only [Act.put, List.setIfInBounds_toArray, List.set_cons_zero, List.set_cons_succ]
            refine wpAnyH_take (i := 8) (oi := ?_) (v := ?_) ?_ (by kernel_rfl) (by kernel_rfl) (by kernel_rfl) ?_ (Or.inl ⟨?_, ?_⟩) hHeld ?_
            rotate_left 2
            · simp only [List.getElem?_toArray, List.getElem?_cons_succ, List.getElem?_cons_zero]; rfl
            · exact fun _ _ _ h => h
            · rfl
            · intro w hSw; (try dsimp only at hSw); go_simp; try (with_reducible rfl)
            try simp only [Act.put, List.setIfInBounds_toArray, List.set_cons_zero, List.set_cons_succ]
            refine wpAnyH_ready (rs := [9]) (by kernel_rfl) (by simp) ?_
            refine AllReadyH.cons (o := ?_) ?_ (fun K hK => ?_) ?_
            rotate_left
            · simp only [List.getElem?_toArray, List.getElem?_cons_succ, List.getElem?_cons_zero]; rfl
            · go_simp
              refine hK.out _ _ (HS9.out.keep) ?_
              clear hK K hHeld
              intro hHeld
              try simp only [Act.put, List.setIfInBounds_toArray, List.set_cons_zero, List.set_cons_succ]
              refine wpAnyH_take (i := 10) (oi := ?_) (v := ?_) ?_ (by kernel_rfl) (by kernel_rfl) (by kernel_rfl) ?_ (Or.inl ⟨?_, ?_⟩) hHeld ?_
              rotate_left 2
              · simp only [List.getElem?_toArray, List.getElem?_cons_succ, List.getElem?_cons_zero]; rfl
              · exact fun _ _ _ h => h
              · rfl
              · intro w hSw; (try dsimp only at hSw); go_simp; try (with_reducible rfl)
              try simp only [Act.put, List.setIfInBounds_toArray, List.set_cons_zero, List.set_cons_succ]
              refine wpAnyH_take (i := 11) (oi := ?_) (v := ?_) ?_ (by kernel_rfl) (by kernel_rfl) (by kernel_rfl) ?_ (Or.inl ⟨?_, ?_⟩) hHeld ?_
              rotate_left 2
              · simp only [List.getElem?_toArray, List.getElem?_cons_succ, List.getElem?_cons_zero]; rfl
              · exact fun _ _ _ h => h
              · rfl
              · intro w hSw; (try dsimp only at hSw); go_simp; try (with_reducible rfl)
              try simp only [Act.put, List.setIfInBounds_toArray, List.set_cons_zero, List.set_cons_succ]
              refine wpAnyH_done (by kernel_rfl) ?_ _
              clear hHeld
              go_wp2_with fail
              refine bodyPost_ret (v := .tuple #[.agg (repC v ByteArray.empty (some ⟨g, 0, none⟩) 1 1), .bool false, .bool true]) (res_cell_tmp2_row rfl _ _ w.heap.size 24 _ (0, 0) _ rfl HS9.out.fin_row Tryd.underlying24 rfl rep_size _ _ rfl rfl) rfl (one_good HF.out (by rw [HV.out]) (by rw [HV.out]; rfl) (by rw [HV.out]; exact HTn.out) (by rw [HV.out, ← HX.out]; rfl) HS9.out)
            exact AllReadyH.nil
          exact AllReadyH.nil
    · obtain ⟨Wd, hW⟩ : ∃ q, strOfNums (cutW 32 (nums T)) = q := ⟨_, rfl⟩
      obtain ⟨Rd, hR⟩ : ∃ q, strOfNums (cutR 32 (nums T)) = q := ⟨_, rfl⟩
      obtain ⟨Bd, hB⟩ : ∃ q, cutB 32 (nums T) = q := ⟨_, rfl⟩
      have HWn := Lib.hid hW
      have HRn := Lib.hid hR
      have HBn := Lib.hid hB
      have hTb := nums_bytes T
      have HWl := Lib.hid (show nums Wd = cutW 32 ((nums s).drop 4) by rw [← hW, nums_strOfNums (by unfold cutW; exact hTb.take _), HTn.out])
      have HRl := Lib.hid (show nums Rd = cutR 32 ((nums s).drop 4) by rw [← hR, nums_strOfNums (by unfold cutR; exact hTb.drop _), HTn.out])
      have HBl := Lib.hid (show cutB 32 ((nums s).drop 4) = Bd by rw [← hB, HTn.out])
      have HEsz := Lib.hid (show Wd.size ≤ 100000 by rw [← nums_length, HWl.out]; unfold cutW; rw [List.length_take, List.length_drop, HL.out]; omega)
      have HTsz := Lib.hid (show (nums Rd).length ≤ 100000 by rw [HRl.out]; unfold cutR; rw [List.length_drop, List.length_drop, HL.out]; omega)
      clear hW hR hB hTb
      cases hv : numP ((nums s).take 3) with
      | none =>
        have HF := Lib.hid (one_nonum (enh := true) HS4.out hv)
        rw [HDn.out, hv] at HNum
        clear hv
        go_enter Tryd.func30, Tryd.ntmps30
        go_wp2_with (go_at_call 33; refine HNum.out.mono ?_; rintro e w1 ⟨rfl, hm1⟩; have HM1 := Lib.hid (HM0.out.trans hm1); have HR1 := Lib.hid (hm1.row HN0.out (by simp)); have k0 := blk_cell HR1.out 0; have z0 := blk_free HR1.out 0; have k1 := blk_cell HR1.out 1; have z1 := blk_free HR1.out 1; have k2 := blk_cell HR1.out 2; have z2 := blk_free HR1.out 2; have hlt0 := blk_lt HR1.out; clear hm1; unfold numV)
        have hr1 := blk_set HR1.out 0 (.int .i64 0)
        have hmc : Mod [w.heap.size] w (w1.setCell ⟨w.heap.size, 0, none⟩ (.int .i64 0)) := (HM1.out.mono (by simp)).setCell (Or.inl (by simp)) _
        have HCut := Lib.hid (ccut_any T _ (HE2.out _ hmc) HTs.out)
        rw [HWn.out, HRn.out, HBn.out] at HCut
        have HMc := Lib.hid hmc
        have HRc := Lib.hid (show (w1.setCell ⟨w.heap.size, 0, none⟩ (.int .i64 0)).heap[w.heap.size]? = some (.cells (repC 0 ByteArray.empty none 0 0) 24 (0, 0)) from hr1)
        clear hr1 hmc
        refine HCut.out.mono ?_
        rintro e w2 ⟨rfl, hm2⟩
        have HR2 := Lib.hid (hm2.row HRc.out (by simp))
        have HM2 := Lib.hid (HMc.out.trans (hm2.mono (by simp)))
        have hlt2 := blk_lt HR2.out
        clear k0 k1 k2 z0 z1 z2 hm2 hlt0
        have k0 := blk_cell HR2.out 0
        have k1 := blk_cell HR2.out 1
        have k2 := blk_cell HR2.out 2
        have z0 := blk_free HR2.out 0
        have z1 := blk_free HR2.out 1
        have z2 := blk_free HR2.out 2
        go_wp2_with fail
        have hs4 : Sgl w w.heap.size 0 Wd (nums Rd) w2.heap.size (((w2.setCell ⟨w.heap.size, 1, none⟩ (.string Wd)).setCell ⟨w.heap.size, 2, none⟩ (.slice (some ⟨w2.heap.size, 0, none⟩) 1 1)).alloc (.cells #[.string Rd] 9)) :=
          ⟨((Mod.refl [] _).alloc _).row (erow HR2.out) (by simp), new_text _ _ (by simp) Rd, ((HM2.out.setCell (Or.inl (by simp)) _).setCell (Or.inl (by simp)) _).alloc _, by omega⟩
        generalize ((w2.setCell ⟨w.heap.size, 1, none⟩ (.string Wd)).setCell ⟨w.heap.size, 2, none⟩ (.slice (some ⟨w2.heap.size, 0, none⟩) 1 1)).alloc (.cells #[.string Rd] 9) = w4 at *
        generalize w2.heap.size = g at *
        have HS5 := Lib.hid hs4
        clear k0 k1 k2 z0 z1 z2 hs4
        have k0 := blk_cell HS5.out.row 0
        have k1 := blk_cell HS5.out.row 1
        have k2 := blk_cell HS5.out.row 2
        have z0 := blk_free HS5.out.row 0
        have z1 := blk_free HS5.out.row 1
        have z2 := blk_free HS5.out.row 2
        refine wp_region_held_drew (S := (fun W => W.cell? ⟨w.heap.size, 0, none⟩ = some (.int .i64 0) ∧ W.cell? ⟨w.heap.size, 1, none⟩ = some (.string Wd) ∧ W.cell? ⟨w.heap.size, 2, none⟩ = some (.slice (some ⟨g, 0, none⟩) 1 1))) (by kernel_rfl) (⟨k0, k1, k2⟩) (fun hHeld => ?_)
        refine wpAnyH_take (i := 0) (oi := ?_) (v := ?_) ?_ (by kernel_rfl) (by kernel_rfl) (by kernel_rfl) ?_ (Or.inl ⟨?_, ?_⟩) hHeld ?_
        rotate_left 2
        · simp only [List.getElem?_toArray, List.getElem?_cons_succ, List.getElem?_cons_zero]; rfl
        · exact fun _ _ _ h => h
        · rfl
        · intro w hSw; (try dsimp only at hSw); go_simp; try (with_reducible rfl)
        try simp only [Act.put, List.setIfInBounds_toArray, List.set_cons_zero, List.set_cons_succ]
        refine wpAnyH_take (i := 1) (oi := ?_) (v := ?_) ?_ (by kernel_rfl) (by kernel_rfl) (by kernel_rfl) ?_ (Or.inl ⟨?_, ?_⟩) hHeld ?_
        rotate_left 2
        · simp only [List.getElem?_toArray, List.getElem?_cons_succ, List.getElem?_cons_zero]; rfl
        · exact fun _ _ _ h => h
        · rfl
        · intro w hSw; (try dsimp only at hSw); go_simp; try (with_reducible rfl)
        try simp only [Act.put, List.setIfInBounds_toArray, List.set_cons_zero, List.set_cons_succ]
        refine wpAnyH_take (i := 2) (oi := ?_) (v := ?_) ?_ (by kernel_rfl) (by kernel_rfl) (by kernel_rfl) ?_ (Or.inl ⟨?_, ?_⟩) hHeld ?_
        rotate_left 2
        · simp only [List.getElem?_toArray, List.getElem?_cons_succ, List.getElem?_cons_zero]; rfl
        · exact fun _ _ _ h => h
        · rfl
        · intro w hSw; (try dsimp only at hSw); go_simp; try (with_reducible rfl)
        try simp only [Act.put, List.setIfInBounds_toArray, List.set_cons_zero, List.set_cons_succ]
        refine wpAnyH_take (i := 3) (oi := ?_) (v := ?_) ?_ (by kernel_rfl) (by kernel_rfl) (by kernel_rfl) ?_ (Or.inl ⟨?_, ?_⟩) hHeld ?_
        rotate_left 2
        · simp only [List.getElem?_toArray, List.getElem?_cons_succ, List.getElem?_cons_zero]; rfl
        · exact fun _ _ _ h => h
        · rfl
        · intro w hSw; (try dsimp only at hSw); go_simp; try (with_reducible rfl)
        try simp only [Act.put, List.setIfInBounds_toArray, List.set_cons_zero, List.set_cons_succ]
        refine wpAnyH_take (i := 4) (oi := ?_) (v := ?_) ?_ (by kernel_rfl) (by kernel_rfl) (by kernel_rfl) ?_ (Or.inl ⟨?_, ?_⟩) hHeld ?_
        rotate_left 2
        · simp only [List.getElem?_toArray, List.getElem?_cons_succ, List.getElem?_cons_zero]; rfl
        · exact fun _ _ _ h => h
        · rfl
        · intro w hSw; (try dsimp only at hSw); go_simp; try (with_reducible rfl)
        try simp only [Act.put, List.setIfInBounds_toArray, List.set_cons_zero, List.set_cons_succ]
        refine wpAnyH_take (i := 5) (oi := ?_) (v := ?_) ?_ (by kernel_rfl) (by kernel_rfl) (by kernel_rfl) ?_ (Or.inl ⟨?_, ?_⟩) hHeld ?_
        rotate_left 2
        · simp only [List.getElem?_toArray, List.getElem?_cons_succ, List.getElem?_cons_zero]; rfl
        · exact fun _ _ _ h => h
        · rfl
        · intro w hSw; (try dsimp only at hSw); go_simp; try (with_reducible rfl)
        try simp only [Act.put, List.setIfInBounds_toArray, List.set_cons_zero, List.set_cons_succ]
        refine wpAnyH_take (i := 6) (oi := ?_) (v := ?_) ?_ (by kernel_rfl) (by kernel_rfl) (by kernel_rfl) ?_ (Or.inr ⟨?_, ?_⟩) hHeld ?_
        rotate_left 2
        · simp only [List.getElem?_toArray, List.getElem?_cons_succ, List.getElem?_cons_zero]; rfl
        · exact fun _ _ _ h => h
        · kernel_rfl
        · rfl
        try simp only [Act.put, List.setIfInBounds_toArray, List.set_cons_zero, List.set_cons_succ]
        refine wpAnyH_take (i := 7) (oi := ?_) (v := ?_) ?_ (by kernel_rfl) (by kernel_rfl) (by kernel_rfl) ?_ (Or.inr ⟨?_, ?_⟩) hHeld ?_
        rotate_left 2
        · simp only [List.getElem?_toArray, List.getElem?_cons_succ, List.getElem?_cons_zero]; rfl
        · exact fun _ _ _ h => h
        · kernel_rfl
        · rfl
        try simp only [Act.put, List.setIfInBounds_toArray, List.set_cons_zero, List.set_cons_succ]
        refine wpAnyH_take (i := 8) (oi := ?_) (v := ?_) ?_ (by kernel_rfl) (by kernel_rfl) (by kernel_rfl) ?_ (Or.inl ⟨?_, ?_⟩) hHeld ?_
        rotate_left 2
        · simp only [List.getElem?_toArray, List.getElem?_cons_succ, List.getElem?_cons_zero]; rfl
        · exact fun _ _ _ h => h
        · rfl
        · intro w hSw; (try dsimp only at hSw); go_simp; try (with_reducible rfl)
        try simp only [Act.put, List.setIfInBounds_toArray, List.set_cons_zero, List.set_cons_succ]
        refine wpAnyH_ready (rs := [9]) (by kernel_rfl) (by simp) ?_
        refine AllReadyH.cons (o := ?_) ?_ (fun K hK => ?_) ?_
        rotate_left
        · simp only [List.getElem?_toArray, List.getElem?_cons_succ, List.getElem?_cons_zero]; rfl
        · go_simp
          refine hK.out _ _ (HS5.out.drew.keep) ?_
          clear hK K hHeld
          intro hHeld
          try simp only [Act.put, List.setIfInBounds_toArray, List.set_cons_zero, List.set_cons_succ]
          refine wpAnyH_take (i := 10) (oi := ?_) (v := ?_) ?_ (by kernel_rfl) (by kernel_rfl) (by kernel_rfl) ?_ (Or.inl ⟨?_, ?_⟩) hHeld ?_
          rotate_left 2
          · simp only [List.getElem?_toArray, List.getElem?_cons_succ, List.getElem?_cons_zero]; rfl
          · exact fun _ _ _ h => h
          · rfl
          · intro w hSw; (try dsimp only at hSw); go_simp; try (with_reducible rfl)
          try simp only [Act.put, List.setIfInBounds_toArray, List.set_cons_zero, List.set_cons_succ]
          refine wpAnyH_take (i := 11) (oi := ?_) (v := ?_) ?_ (by kernel_rfl) (by kernel_rfl) (by kernel_rfl) ?_ (Or.inl ⟨?_, ?_⟩) hHeld ?_
          rotate_left 2
          · simp only [List.getElem?_toArray, List.getElem?_cons_succ, List.getElem?_cons_zero]; rfl
          · exact fun _ _ _ h => h
          · rfl
          · intro w hSw; (try dsimp only at hSw); go_simp; try (with_reducible rfl)
          try simp only [Act.put, List.setIfInBounds_toArray, List.set_cons_zero, List.set_cons_succ]
          refine wpAnyH_done (by kernel_rfl) ?_ _
          clear hHeld
          go_wp2_with fail
          refine bodyPost_ret (v := .tuple #[.agg (repC 0 Wd (some ⟨g, 0, none⟩) 1 1), .bool false, .bool false]) (res_cell_tmp2_row rfl _ _ w.heap.size 24 _ (0, 0) _ rfl HS5.out.drew.fin_row Tryd.underlying24 rfl rep_size _ _ rfl rfl) rfl (one_fail HF.out HS5.out.drew.fin_mod)
        exact AllReadyH.nil
      | some v =>
        have hone := one_enh HS4.out HS3.out hv
        have HV := Lib.hid hone.2
        have hone1 := hone.1
        rw [HBl.out] at hone1
        rw [HDn.out, hv] at HNum
        clear hv hone
        cases Bd
        · have HF := Lib.hid (show oneB true (nums s) = false by rw [hone1]; rfl)
          clear hone1
          go_enter Tryd.func30, Tryd.ntmps30
          go_wp2_with (go_at_call 33; refine HNum.out.mono ?_; rintro e w1 ⟨rfl, hm1⟩; have HM1 := Lib.hid (HM0.out.trans hm1); have HR1 := Lib.hid (hm1.row HN0.out (by simp)); have k0 := blk_cell HR1.out 0; have z0 := blk_free HR1.out 0; have k1 := blk_cell HR1.out 1; have z1 := blk_free HR1.out 1; have k2 := blk_cell HR1.out 2; have z2 := blk_free HR1.out 2; have hlt0 := blk_lt HR1.out; clear hm1; unfold numV)
          have hr1 := blk_set HR1.out 0 (.int .i64 v)
          have hmc : Mod [w.heap.size] w (w1.setCell ⟨w.heap.size, 0, none⟩ (.int .i64 v)) := (HM1.out.mono (by simp)).setCell (Or.inl (by simp)) _
          have HCut := Lib.hid (ccut_any T _ (HE2.out _ hmc) HTs.out)
          rw [HWn.out, HRn.out, HBn.out] at HCut
          have HMc := Lib.hid hmc
          have HRc := Lib.hid (show (w1.setCell ⟨w.heap.size, 0, none⟩ (.int .i64 v)).heap[w.heap.size]? = some (.cells (repC v ByteArray.empty none 0 0) 24 (0, 0)) from hr1)
          clear hr1 hmc
          refine HCut.out.mono ?_
          rintro e w2 ⟨rfl, hm2⟩
          have HR2 := Lib.hid (hm2.row HRc.out (by simp))
          have HM2 := Lib.hid (HMc.out.trans (hm2.mono (by simp)))
          have hlt2 := blk_lt HR2.out
          clear k0 k1 k2 z0 z1 z2 hm2 hlt0
          have k0 := blk_cell HR2.out 0
          have k1 := blk_cell HR2.out 1
          have k2 := blk_cell HR2.out 2
          have z0 := blk_free HR2.out 0
          have z1 := blk_free HR2.out 1
          have z2 := blk_free HR2.out 2
          go_wp2_with fail
          have hs4 : Sgl w w.heap.size v Wd (nums Rd) w2.heap.size (((w2.setCell ⟨w.heap.size, 1, none⟩ (.string Wd)).setCell ⟨w.heap.size, 2, none⟩ (.slice (some ⟨w2.heap.size, 0, none⟩) 1 1)).alloc (.cells #[.string Rd] 9)) :=
            ⟨((Mod.refl [] _).alloc _).row (erow HR2.out) (by simp), new_text _ _ (by simp) Rd, ((HM2.out.setCell (Or.inl (by simp)) _).setCell (Or.inl (by simp)) _).alloc _, by omega⟩
          generalize ((w2.setCell ⟨w.heap.size, 1, none⟩ (.string Wd)).setCell ⟨w.heap.size, 2, none⟩ (.slice (some ⟨w2.heap.size, 0, none⟩) 1 1)).alloc (.cells #[.string Rd] 9) = w4 at *
          generalize w2.heap.size = g at *
          have HS5 := Lib.hid hs4
          clear k0 k1 k2 z0 z1 z2 hs4
          have k0 := blk_cell HS5.out.row 0
          have k1 := blk_cell HS5.out.row 1
          have k2 := blk_cell HS5.out.row 2
          have z0 := blk_free HS5.out.row 0
          have z1 := blk_free HS5.out.row 1
          have z2 := blk_free HS5.out.row 2
          refine wp_region_held_drew (S := (fun W => W.cell? ⟨w.heap.size, 0, none⟩ = some (.int .i64 v) ∧ W.cell? ⟨w.heap.size, 1, none⟩ = some (.string Wd) ∧ W.cell? ⟨w.heap.size, 2, none⟩ = some (.slice (some ⟨g, 0, none⟩) 1 1))) (by kernel_rfl) (⟨k0, k1, k2⟩) (fun hHeld => ?_)
          refine wpAnyH_take (i := 0) (oi := ?_) (v := ?_) ?_ (by kernel_rfl) (by kernel_rfl) (by kernel_rfl) ?_ (Or.inl ⟨?_, ?_⟩) hHeld ?_
          rotate_left 2
          · simp only [List.getElem?_toArray, List.getElem?_cons_succ, List.getElem?_cons_zero]; rfl
          · exact fun _ _ _ h => h
          · rfl
          · intro w hSw; (try dsimp only at hSw); go_simp; try (with_reducible rfl)
          try simp only [Act.put, List.setIfInBounds_toArray, List.set_cons_zero, List.set_cons_succ]
          refine wpAnyH_take (i := 1) (oi := ?_) (v := ?_) ?_ (by kernel_rfl) (by kernel_rfl) (by kernel_rfl) ?_ (Or.inl ⟨?_, ?_⟩) hHeld ?_
          rotate_left 2
          · simp only [List.getElem?_toArray, List.getElem?_cons_succ, List.getElem?_cons_zero]; rfl
          · exact fun _ _ _ h => h
          · rfl
          · intro w hSw; (try dsimp only at hSw); go_simp; try (with_reducible rfl)
          try simp only [Act.put, List.setIfInBounds_toArray, List.set_cons_zero, List.set_cons_succ]
          refine wpAnyH_take (i := 2) (oi := ?_) (v := ?_) ?_ (by kernel_rfl) (by kernel_rfl) (by kernel_rfl) ?_ (Or.inl ⟨?_, ?_⟩) hHeld ?_
          rotate_left 2
          · simp only [List.getElem?_toArray, List.getElem?_cons_succ, List.getElem?_cons_zero]; rfl
          · exact fun _ _ _ h => h
          · rfl
          · intro w hSw; (try dsimp only at hSw); go_simp; try (with_reducible rfl)
          try simp only [Act.put, List.setIfInBounds_toArray, List.set_cons_zero, List.set_cons_succ]
          refine wpAnyH_take (i := 3) (oi := ?_) (v := ?_) ?_ (by kernel_rfl) (by kernel_rfl) (by kernel_rfl) ?_ (Or.inl ⟨?_, ?_⟩) hHeld ?_
          rotate_left 2
          · simp only [List.getElem?_toArray, List.getElem?_cons_succ, List.getElem?_cons_zero]; rfl
          · exact fun _ _ _ h => h
          · rfl
          · intro w hSw; (try dsimp only at hSw); go_simp; try (with_reducible rfl)
          try simp only [Act.put, List.setIfInBounds_toArray, List.set_cons_zero, List.set_cons_succ]
          refine wpAnyH_take (i := 4) (oi := ?_) (v := ?_) ?_ (by kernel_rfl) (by kernel_rfl) (by kernel_rfl) ?_ (Or.inl ⟨?_, ?_⟩) hHeld ?_
          rotate_left 2
          · simp only [List.getElem?_toArray, List.getElem?_cons_succ, List.getElem?_cons_zero]; rfl
          · exact fun _ _ _ h => h
          · rfl
          · intro w hSw; (try dsimp only at hSw); go_simp; try (with_reducible rfl)
          try simp only [Act.put, List.setIfInBounds_toArray, List.set_cons_zero, List.set_cons_succ]
          refine wpAnyH_take (i := 5) (oi := ?_) (v := ?_) ?_ (by kernel_rfl) (by kernel_rfl) (by kernel_rfl) ?_ (Or.inl ⟨?_, ?_⟩) hHeld ?_
          rotate_left 2
          · simp only [List.getElem?_toArray, List.getElem?_cons_succ, List.getElem?_cons_zero]; rfl
          · exact fun _ _ _ h => h
          · rfl
          · intro w hSw; (try dsimp only at hSw); go_simp; try (with_reducible rfl)
          try simp only [Act.put, List.setIfInBounds_toArray, List.set_cons_zero, List.set_cons_succ]
          refine wpAnyH_take (i := 6) (oi := ?_) (v := ?_) ?_ (by kernel_rfl) (by kernel_rfl) (by kernel_rfl) ?_ (Or.inr ⟨?_, ?_⟩) hHeld ?_
          rotate_left 2
          · simp only [List.getElem?_toArray, List.getElem?_cons_succ, List.getElem?_cons_zero]; rfl
          · exact fun _ _ _ h => h
          · kernel_rfl
          · rfl
          try simp only [Act.put, List.setIfInBounds_toArray, List.set_cons_zero, List.set_cons_succ]
          refine wpAnyH_take (i := 7) (oi := ?_) (v := ?_) ?_ (by kernel_rfl) (by kernel_rfl) (by kernel_rfl) ?_ (Or.inr ⟨?_, ?_⟩) hHeld ?_
          rotate_left 2
          · simp only [List.getElem?_toArray, List.getElem?_cons_succ, List.getElem?_cons_zero]; rfl
          · exact fun _ _ _ h => h
          · kernel_rfl
          · rfl
          try simp only [Act.put, List.setIfInBounds_toArray, List.set_cons_zero, List.set_cons_succ]
          refine wpAnyH_take (i := 8) (oi := ?_) (v := ?_) ?_ (by kernel_rfl) (by kernel_rfl) (by kernel_rfl) ?_ (Or.inl ⟨?_, ?_⟩) hHeld ?_
          rotate_left 2
          · simp only [List.getElem?_toArray, List.getElem?_cons_succ, List.getElem?_cons_zero]; rfl
          · exact fun _ _ _ h => h
          · rfl
          · intro w hSw; (try dsimp only at hSw); go_simp; try (with_reducible rfl)
          try simp only [Act.put, List.setIfInBounds_toArray, List.set_cons_zero, List.set_cons_succ]
          refine wpAnyH_ready (rs := [9]) (by kernel_rfl) (by simp) ?_
          refine AllReadyH.cons (o := ?_) ?_ (fun K hK => ?_) ?_
          rotate_left
          · simp only [List.getElem?_toArray, List.getElem?_cons_succ, List.getElem?_cons_zero]; rfl
          · go_simp
            refine hK.out _ _ (HS5.out.drew.keep) ?_
            clear hK K hHeld
            intro hHeld
            try simp only [Act.put, List.setIfInBounds_toArray, List.set_cons_zero, List.set_cons_succ]
            refine wpAnyH_take (i := 10) (oi := ?_) (v := ?_) ?_ (by kernel_rfl) (by kernel_rfl) (by kernel_rfl) ?_ (Or.inl ⟨?_, ?_⟩) hHeld ?_
            rotate_left 2
            · simp only [List.getElem?_toArray, List.getElem?_cons_succ, List.getElem?_cons_zero]; rfl
            · exact fun _ _ _ h => h
            · rfl
            · intro w hSw; (try dsimp only at hSw); go_simp; try (with_reducible rfl)
            try simp only [Act.put, List.setIfInBounds_toArray, List.set_cons_zero, List.set_cons_succ]
            refine wpAnyH_take (i := 11) (oi := ?_) (v := ?_) ?_ (by kernel_rfl) (by kernel_rfl) (by kernel_rfl) ?_ (Or.inl ⟨?_, ?_⟩) hHeld ?_
            rotate_left 2
            · simp only [List.getElem?_toArray, List.getElem?_cons_succ, List.getElem?_cons_zero]; rfl
            · exact fun _ _ _ h => h
            · rfl
            · intro w hSw; (try dsimp only at hSw); go_simp; try (with_reducible rfl)
            try simp only [Act.put, List.setIfInBounds_toArray, List.set_cons_zero, List.set_cons_succ]
            refine wpAnyH_done (by kernel_rfl) ?_ _
            clear hHeld
            go_wp2_with fail
            refine bodyPost_ret (v := .tuple #[.agg (repC v Wd (some ⟨g, 0, none⟩) 1 1), .bool false, .bool false]) (res_cell_tmp2_row rfl _ _ w.heap.size 24 _ (0, 0) _ rfl HS5.out.drew.fin_row Tryd.underlying24 rfl rep_size _ _ rfl rfl) rfl (one_fail HF.out HS5.out.drew.fin_mod)
          exact AllReadyH.nil
        · rw [Bool.true_and] at hone1
          by_cases hw0 : Wd.size = 0
          · have w1' : Wd.toList = [] := toList_nil.2 hw0
            have w2' : (Wd.toList == ([] : List UInt8)) = true := by rw [w1']; rfl
            have HF := Lib.hid (show oneB true (nums s) = false by
              rw [hone1, ← HWl.out, nums_nil.2 hw0]; rfl)
            clear hone1 hw0
            go_enter Tryd.func30, Tryd.ntmps30
            go_wp2_with (go_at_call 33; refine HNum.out.mono ?_; rintro e w1 ⟨rfl, hm1⟩; have HM1 := Lib.hid (HM0.out.trans hm1); have HR1 := Lib.hid (hm1.row HN0.out (by simp)); have k0 := blk_cell HR1.out 0; have z0 := blk_free HR1.out 0; have k1 := blk_cell HR1.out 1; have z1 := blk_free HR1.out 1; have k2 := blk_cell HR1.out 2; have z2 := blk_free HR1.out 2; have hlt0 := blk_lt HR1.out; clear hm1; unfold numV)
            have hr1 := blk_set HR1.out 0 (.int .i64 v)
            have hmc : Mod [w.heap.size] w (w1.setCell ⟨w.heap.size, 0, none⟩ (.int .i64 v)) := (HM1.out.mono (by simp)).setCell (Or.inl (by simp)) _
            have HCut := Lib.hid (ccut_any T _ (HE2.out _ hmc) HTs.out)
            rw [HWn.out, HRn.out, HBn.out] at HCut
            have HMc := Lib.hid hmc
            have HRc := Lib.hid (show (w1.setCell ⟨w.heap.size, 0, none⟩ (.int .i64 v)).heap[w.heap.size]? = some (.cells (repC v ByteArray.empty none 0 0) 24 (0, 0)) from hr1)
            clear hr1 hmc
            refine HCut.out.mono ?_
            rintro e w2 ⟨rfl, hm2⟩
            have HR2 := Lib.hid (hm2.row HRc.out (by simp))
            have HM2 := Lib.hid (HMc.out.trans (hm2.mono (by simp)))
            have hlt2 := blk_lt HR2.out
            clear k0 k1 k2 z0 z1 z2 hm2 hlt0
            have k0 := blk_cell HR2.out 0
            have k1 := blk_cell HR2.out 1
            have k2 := blk_cell HR2.out 2
            have z0 := blk_free HR2.out 0
            have z1 := blk_free HR2.out 1
            have z2 := blk_free HR2.out 2
            go_wp2_with fail
            have hs4 : Sgl w w.heap.size v Wd (nums Rd) w2.heap.size (((w2.setCell ⟨w.heap.size, 1, none⟩ (.string Wd)).setCell ⟨w.heap.size, 2, none⟩ (.slice (some ⟨w2.heap.size, 0, none⟩) 1 1)).alloc (.cells #[.string Rd] 9)) :=
              ⟨((Mod.refl [] _).alloc _).row (erow HR2.out) (by simp), new_text _ _ (by simp) Rd, ((HM2.out.setCell (Or.inl (by simp)) _).setCell (Or.inl (by simp)) _).alloc _, by omega⟩
            generalize ((w2.setCell ⟨w.heap.size, 1, none⟩ (.string Wd)).setCell ⟨w.heap.size, 2, none⟩ (.slice (some ⟨w2.heap.size, 0, none⟩) 1 1)).alloc (.cells #[.string Rd] 9) = w4 at *
            generalize w2.heap.size = g at *
            have HS5 := Lib.hid hs4
            clear k0 k1 k2 z0 z1 z2 hs4
            have k0 := blk_cell HS5.out.row 0
            have k1 := blk_cell HS5.out.row 1
            have k2 := blk_cell HS5.out.row 2
            have z0 := blk_free HS5.out.row 0
            have z1 := blk_free HS5.out.row 1
            have z2 := blk_free HS5.out.row 2
            refine wp_region_held_drew (S := (fun W => W.cell? ⟨w.heap.size, 0, none⟩ = some (.int .i64 v) ∧ W.cell? ⟨w.heap.size, 1, none⟩ = some (.string Wd) ∧ W.cell? ⟨w.heap.size, 2, none⟩ = some (.slice (some ⟨g, 0, none⟩) 1 1))) (by kernel_rfl) (⟨k0, k1, k2⟩) (fun hHeld => ?_)
            refine wpAnyH_take (i := 0) (oi := ?_) (v := ?_) ?_ (by kernel_rfl) (by kernel_rfl) (by kernel_rfl) ?_ (Or.inl ⟨?_, ?_⟩) hHeld ?_
            rotate_left 2
            · simp only [List.getElem?_toArray, List.getElem?_cons_succ, List.getElem?_cons_zero]; rfl
            · exact fun _ _ _ h => h
            · rfl
            · intro w hSw; (try dsimp only at hSw); go_simp; try (with_reducible rfl)
            try simp only [Act.put, List.setIfInBounds_toArray, List.set_cons_zero, List.set_cons_succ]
            refine wpAnyH_take (i := 1) (oi := ?_) (v := ?_) ?_ (by kernel_rfl) (by kernel_rfl) (by kernel_rfl) ?_ (Or.inl ⟨?_, ?_⟩) hHeld ?_
            rotate_left 2
            · simp only [List.getElem?_toArray, List.getElem?_cons_succ, List.getElem?_cons_zero]; rfl
            · exact fun _ _ _ h => h
            · rfl
            · intro w hSw; (try dsimp only at hSw); go_simp; try (with_reducible rfl)
            try simp only [Act.put, List.setIfInBounds_toArray, List.set_cons_zero, List.set_cons_succ]
            refine wpAnyH_take (i := 2) (oi := ?_) (v := ?_) ?_ (by kernel_rfl) (by kernel_rfl) (by kernel_rfl) ?_ (Or.inl ⟨?_, ?_⟩) hHeld ?_
            rotate_left 2
            · simp only [List.getElem?_toArray, List.getElem?_cons_succ, List.getElem?_cons_zero]; rfl
            · exact fun _ _ _ h => h
            · rfl
            · intro w hSw; (try dsimp only at hSw); go_simp; try (with_reducible rfl)
            try simp only [Act.put, List.setIfInBounds_toArray, List.set_cons_zero, List.set_cons_succ]
            refine wpAnyH_take (i := 3) (oi := ?_) (v := ?_) ?_ (by kernel_rfl) (by kernel_rfl) (by kernel_rfl) ?_ (Or.inl ⟨?_, ?_⟩) hHeld ?_
            rotate_left 2
            · simp only [List.getElem?_toArray, List.getElem?_cons_succ, List.getElem?_cons_zero]; rfl
            · exact fun _ _ _ h => h
            · rfl
            · intro w hSw; (try dsimp only at hSw); go_simp; try (with_reducible rfl)
            try simp only [Act.put, List.setIfInBounds_toArray, List.set_cons_zero, List.set_cons_succ]
            refine wpAnyH_take (i := 4) (oi := ?_) (v := ?_) ?_ (by kernel_rfl) (by kernel_rfl) (by kernel_rfl) ?_ (Or.inl ⟨?_, ?_⟩) hHeld ?_
            rotate_left 2
            · simp only [List.getElem?_toArray, List.getElem?_cons_succ, List.getElem?_cons_zero]; rfl
            · exact fun _ _ _ h => h
            · rfl
            · intro w hSw; (try dsimp only at hSw); go_simp; try (with_reducible rfl)
            try simp only [Act.put, List.setIfInBounds_toArray, List.set_cons_zero, List.set_cons_succ]
            refine wpAnyH_take (i := 5) (oi := ?_) (v := ?_) ?_ (by kernel_rfl) (by kernel_rfl) (by kernel_rfl) ?_ (Or.inl ⟨?_, ?_⟩) hHeld ?_
            rotate_left 2
            · simp only [List.getElem?_toArray, List.getElem?_cons_succ, List.getElem?_cons_zero]; rfl
            · exact fun _ _ _ h => h
            · rfl
            · intro w hSw; (try dsimp only at hSw); go_simp; try (with_reducible rfl)
            try simp only [Act.put, List.setIfInBounds_toArray, List.set_cons_zero, List.set_cons_succ]
            refine wpAnyH_take (i := 6) (oi := ?_) (v := ?_) ?_ (by kernel_rfl) (by kernel_rfl) (by kernel_rfl) ?_ (Or.inr ⟨?_, ?_⟩) hHeld ?_
            rotate_left 2
            · simp only [List.getElem?_toArray, List.getElem?_cons_succ, List.getElem?_cons_zero]; rfl
            · exact fun _ _ _ h => h
            · kernel_rfl
            · rfl
            try simp only [Act.put, List.setIfInBounds_toArray, List.set_cons_zero, List.set_cons_succ]
            refine wpAnyH_take (i := 7) (oi := ?_) (v := ?_) ?_ (by kernel_rfl) (by kernel_rfl) (by kernel_rfl) ?_ (Or.inr ⟨?_, ?_⟩) hHeld ?_
            rotate_left 2
            · simp only [List.getElem?_toArray, List.getElem?_cons_succ, List.getElem?_cons_zero]; rfl
            · exact fun _ _ _ h => h
            · kernel_rfl
            · rfl
            try simp only [Act.put, List.setIfInBounds_toArray, List.set_cons_zero, List.set_cons_succ]
            refine wpAnyH_take (i := 8) (oi := ?_) (v := ?_) ?_ (by kernel_rfl) (by kernel_rfl) (by kernel_rfl) ?_ (Or.inl ⟨?_, ?_⟩) hHeld ?_
            rotate_left 2
            · simp only [List.getElem?_toArray, List.getElem?_cons_succ, List.getElem?_cons_zero]; rfl
            · exact fun _ _ _ h => h
            · rfl
            · intro w hSw; (try dsimp only at hSw); go_simp; try (with_reducible rfl)
            try simp only [Act.put, List.setIfInBounds_toArray, List.set_cons_zero, List.set_cons_succ]
            refine wpAnyH_ready (rs := [9]) (by kernel_rfl) (by simp) ?_
            refine AllReadyH.cons (o := ?_) ?_ (fun K hK => ?_) ?_
            rotate_left
            · simp only [List.getElem?_toArray, List.getElem?_cons_succ, List.getElem?_cons_zero]; rfl
            · go_simp
              refine hK.out _ _ (HS5.out.drew.keep) ?_
              clear hK K hHeld
              intro hHeld
              try simp only [Act.put, List.setIfInBounds_toArray, List.set_cons_zero, List.set_cons_succ]
              refine wpAnyH_take (i := 10) (oi := ?_) (v := ?_) ?_ (by kernel_rfl) (by kernel_rfl) (by kernel_rfl) ?_ (Or.inl ⟨?_, ?_⟩) hHeld ?_
              rotate_left 2
              · simp only [List.getElem?_toArray, List.getElem?_cons_succ, List.getElem?_cons_zero]; rfl
              · exact fun _ _ _ h => h
              · rfl
              · intro w hSw; (try dsimp only at hSw); go_simp; try (with_reducible rfl)
              try simp only [Act.put, List.setIfInBounds_toArray, List.set_cons_zero, List.set_cons_succ]
              refine wpAnyH_take (i := 11) (oi := ?_) (v := ?_) ?_ (by kernel_rfl) (by kernel_rfl) (by kernel_rfl) ?_ (Or.inl ⟨?_, ?_⟩) hHeld ?_
              rotate_left 2
              · simp only [List.getElem?_toArray, List.getElem?_cons_succ, List.getElem?_cons_zero]; rfl
              · exact fun _ _ _ h => h
              · rfl
              · intro w hSw; (try dsimp only at hSw); go_simp; try (with_reducible rfl)
              try simp only [Act.put, List.setIfInBounds_toArray, List.set_cons_zero, List.set_cons_succ]
              refine wpAnyH_done (by kernel_rfl) ?_ _
              clear hHeld
              go_wp2_with fail
              refine bodyPost_ret (v := .tuple #[.agg (repC v Wd (some ⟨g, 0, none⟩) 1 1), .bool false, .bool false]) (res_cell_tmp2_row rfl _ _ w.heap.size 24 _ (0, 0) _ rfl HS5.out.drew.fin_row Tryd.underlying24 rfl rep_size _ _ rfl rfl) rfl (one_fail HF.out HS5.out.drew.fin_mod)
            exact AllReadyH.nil
          · have w1' : Wd.toList ≠ [] := fun h => hw0 (toList_nil.1 h)
            have w2' : (Wd.toList == ([] : List UInt8)) = false := by rw [beq_eq_false_iff_ne]; exact w1'
            have hone2 : oneB true (nums s) = goodB ⟨(v : Int), cutW 32 ((nums s).drop 4), [cutR 32 ((nums s).drop 4)]⟩ := by
              rw [hone1, decide_eq_true (p := cutW 32 ((nums s).drop 4) ≠ []) (by rw [← HWl.out]; exact fun h => hw0 (nums_nil.1 h)), Bool.true_and]
            clear hone1 hw0
            cases hg : goodB ⟨(v : Int), cutW 32 ((nums s).drop 4), [cutR 32 ((nums s).drop 4)]⟩
            · have HGd := Lib.hid (show goodB ⟨(v : Int), nums Wd, [nums Rd]⟩ = false by rw [HWl.out, HRl.out]; exact hg)
              have HF := Lib.hid (hone2.trans hg)
              clear hg hone2
              go_enter Tryd.func30, Tryd.ntmps30
              go_wp2_with (go_at_call 33; refine HNum.out.mono ?_; rintro e w1 ⟨rfl, hm1⟩; have HM1 := Lib.hid (HM0.out.trans hm1); have HR1 := Lib.hid (hm1.row HN0.out (by simp)); have k0 := blk_cell HR1.out 0; have z0 := blk_free HR1.out 0; have k1 := blk_cell HR1.out 1; have z1 := blk_free HR1.out 1; have k2 := blk_cell HR1.out 2; have z2 := blk_free HR1.out 2; have hlt0 := blk_lt HR1.out; clear hm1; unfold numV)
              have hr1 := blk_set HR1.out 0 (.int .i64 v)
              have hmc : Mod [w.heap.size] w (w1.setCell ⟨w.heap.size, 0, none⟩ (.int .i64 v)) := (HM1.out.mono (by simp)).setCell (Or.inl (by simp)) _
              have HCut := Lib.hid (ccut_any T _ (HE2.out _ hmc) HTs.out)
              rw [HWn.out, HRn.out, HBn.out] at HCut
              have HMc := Lib.hid hmc
              have HRc := Lib.hid (show (w1.setCell ⟨w.heap.size, 0, none⟩ (.int .i64 v)).heap[w.heap.size]? = some (.cells (repC v ByteArray.empty none 0 0) 24 (0, 0)) from hr1)
              clear hr1 hmc
              refine HCut.out.mono ?_
              rintro e w2 ⟨rfl, hm2⟩
              have HR2 := Lib.hid (hm2.row HRc.out (by simp))
              have HM2 := Lib.hid (HMc.out.trans (hm2.mono (by simp)))
              have hlt2 := blk_lt HR2.out
              clear k0 k1 k2 z0 z1 z2 hm2 hlt0
              have k0 := blk_cell HR2.out 0
              have k1 := blk_cell HR2.out 1
              have k2 := blk_cell HR2.out 2
              have z0 := blk_free HR2.out 0
              have z1 := blk_free HR2.out 1
              have z2 := blk_free HR2.out 2
              go_wp2_with fail
              have hs4 : Sgl w w.heap.size v Wd (nums Rd) w2.heap.size (((w2.setCell ⟨w.heap.size, 1, none⟩ (.string Wd)).setCell ⟨w.heap.size, 2, none⟩ (.slice (some ⟨w2.heap.size, 0, none⟩) 1 1)).alloc (.cells #[.string Rd] 9)) :=
                ⟨((Mod.refl [] _).alloc _).row (erow HR2.out) (by simp), new_text _ _ (by simp) Rd, ((HM2.out.setCell (Or.inl (by simp)) _).setCell (Or.inl (by simp)) _).alloc _, by omega⟩
              generalize ((w2.setCell ⟨w.heap.size, 1, none⟩ (.string Wd)).setCell ⟨w.heap.size, 2, none⟩ (.slice (some ⟨w2.heap.size, 0, none⟩) 1 1)).alloc (.cells #[.string Rd] 9) = w4 at *
              generalize w2.heap.size = g at *
              have HS5 := Lib.hid hs4
              clear k0 k1 k2 z0 z1 z2 hs4
              have k0 := blk_cell HS5.out.row 0
              have k1 := blk_cell HS5.out.row 1
              have k2 := blk_cell HS5.out.row 2
              have z0 := blk_free HS5.out.row 0
              have z1 := blk_free HS5.out.row 1
              have z2 := blk_free HS5.out.row 2
              refine wp_region_held_drew (S := (fun W => W.cell? ⟨w.heap.size, 0, none⟩ = some (.int .i64 v) ∧ W.cell? ⟨w.heap.size, 1, none⟩ = some (.string Wd) ∧ W.cell? ⟨w.heap.size, 2, none⟩ = some (.slice (some ⟨g, 0, none⟩) 1 1))) (by kernel_rfl) (⟨k0, k1, k2⟩) (fun hHeld => ?_)
              refine wpAnyH_take (i := 0) (oi := ?_) (v := ?_) ?_ (by kernel_rfl) (by kernel_rfl) (by kernel_rfl) ?_ (Or.inl ⟨?_, ?_⟩) hHeld ?_
              rotate_left 2
              · simp only [List.getElem?_toArray, List.getElem?_cons_succ, List.getElem?_cons_zero]; rfl
              · exact fun _ _ _ h => h
              · rfl
              · intro w hSw; (try dsimp only at hSw); go_simp; try (with_reducible rfl)
              try simp only [Act.put, List.setIfInBounds_toArray, List.set_cons_zero, List.set_cons_succ]
              refine wpAnyH_take (i := 1) (oi := ?_) (v := ?_) ?_ (by kernel_rfl) (by kernel_rfl) (by kernel_rfl) ?_ (Or.inl ⟨?_, ?_⟩) hHeld ?_
              rotate_left 2
              · simp only [List.getElem?_toArray, List.getElem?_cons_succ, List.getElem?_cons_zero]; rfl
              · exact fun _ _ _ h => h
              · rfl
              · intro w hSw; (try dsimp only at hSw); go_simp; try (with_reducible rfl)
              try simp only [Act.put, List.setIfInBounds_toArray, List.set_cons_zero, List.set_cons_succ]
              refine wpAnyH_take (i := 2) (oi := ?_) (v := ?_) ?_ (by kernel_rfl) (by kernel_rfl) (by kernel_rfl) ?_ (Or.inl ⟨?_, ?_⟩) hHeld ?_
              rotate_left 2
              · simp only [List.getElem?_toArray, List.getElem?_cons_succ, List.getElem?_cons_zero]; rfl
              · exact fun _ _ _ h => h
              · rfl
              · intro w hSw; (try dsimp only at hSw); go_simp; try (with_reducible rfl)
              try simp only [Act.put, List.setIfInBounds_toArray, List.set_cons_zero, List.set_cons_succ]
              refine wpAnyH_take (i := 3) (oi := ?_) (v := ?_) ?_ (by kernel_rfl) (by kernel_rfl) (by kernel_rfl) ?_ (Or.inl ⟨?_, ?_⟩) hHeld ?_
              rotate_left 2
              · simp only [List.getElem?_toArray, List.getElem?_cons_succ, List.getElem?_cons_zero]; rfl
              · exact fun _ _ _ h => h
              · rfl
              · intro w hSw; (try dsimp only at hSw); go_simp; try (with_reducible rfl)
              try simp only [Act.put, List.setIfInBounds_toArray, List.set_cons_zero, List.set_cons_succ]
              refine wpAnyH_take (i := 4) (oi := ?_) (v := ?_) ?_ (by kernel_rfl) (by kernel_rfl) (by kernel_rfl) ?_ (Or.inl ⟨?_, ?_⟩) hHeld ?_
              rotate_left 2
              · simp only [List.getElem?_toArray, List.getElem?_cons_succ, List.getElem?_cons_zero]; rfl
              · exact fun _ _ _ h => h
              · rfl
              · intro w hSw; (try dsimp only at hSw); go_simp; try (with_reducible rfl)
              try simp only [Act.put, List.setIfInBounds_toArray, List.set_cons_zero, List.set_cons_succ]
              refine wpAnyH_take (i := 5) (oi := ?_) (v := ?_) ?_ (by kernel_rfl) (by kernel_rfl) (by kernel_rfl) ?_ (Or.inl ⟨?_, ?_⟩) hHeld ?_
              rotate_left 2
              · simp only [List.getElem?_toArray, List.getElem?_cons_succ, List.getElem?_cons_zero]; rfl
              · exact fun _ _ _ h => h
              · rfl
              · intro w hSw; (try dsimp only at hSw); go_simp; try (with_reducible rfl)
              try simp only [Act.put, List.setIfInBounds_toArray, List.set_cons_zero, List.set_cons_succ]
              refine wpAnyH_take (i := 6) (oi := ?_) (v := ?_) ?_ (by kernel_rfl) (by kernel_rfl) (by kernel_rfl) ?_ (Or.inl ⟨?_, ?_⟩) hHeld ?_
              rotate_left 2
              · simp only [List.getElem?_toArray, List.getElem?_cons_succ, List.getElem?_cons_zero]; rfl
              · exact fun _ _ _ h => h
              · rfl
              · intro w hSw; (try dsimp only at hSw); go_simp; try (with_reducible rfl)
              try simp only [Act.put, List.setIfInBounds_toArray, List.set_cons_zero, List.set_cons_succ]
              refine wpAnyH_ready (rs := [7]) (by kernel_rfl) (by simp) ?_
              refine AllReadyH.cons (o := ?_) ?_ (fun K hK => ?_) ?_
              rotate_left
              · simp only [List.getElem?_toArray, List.getElem?_cons_succ, List.getElem?_cons_zero]; rfl
              · go_simp
                refine (good_any _ (HE2.out _ HS5.out.drew.mod) v Wd (some ⟨g, 0, none⟩) 1 1 [nums Rd] HS5.out.drew.txt rfl HEsz.out (by intro l hl; simp at hl; subst hl; exact HTsz.out) (by simp)).mono ?_
                rintro e w9 ⟨rfl, hm9⟩
                rw [HGd.out]
                have HS9 := Lib.hid (HS5.out.drew.quiet hm9)
                clear k0 k1 k2 z0 z1 z2 hm9
                have k0 := blk_cell HS9.out.row 0
                have k1 := blk_cell HS9.out.row 1
                have k2 := blk_cell HS9.out.row 2
                have z0 := blk_free HS9.out.row 0
                have z1 := blk_free HS9.out.row 1
                have z2 := blk_free HS9.out.row 2
                go_wp2_with fail
                refine hK.out _ _ (⟨k0, k1, k2⟩) ?_
                clear hK K hHeld
                intro hHeld
                try simp only [Act.put, List.setIfInBounds_toArray, List.set_cons_zero, List.set_cons_succ]
                refine wpAnyH_take (i := 8) (oi := ?_) (v := ?_) ?_ (by kernel_rfl) (by kernel_rfl) (by kernel_rfl) ?_ (Or.inl ⟨?_, ?_⟩) hHeld ?_
                rotate_left 2
                · simp only [List.getElem?_toArray, List.getElem?_cons_succ, List.getElem?_cons_zero]; rfl
                · exact fun _ _ _ h => h
                · rfl
                · intro w hSw; (try dsimp only at hSw); go_simp; try (with_reducible rfl)
                try simp only [Act.put, List.setIfInBounds_toArray, List.set_cons_zero, List.set_cons_succ]
                refine wpAnyH_ready (rs := [9]) (by kernel_rfl) (by simp) ?_
                refine AllReadyH.cons (o := ?_) ?_ (fun K hK => ?_) ?_
                rotate_left
                · simp only [List.getElem?_toArray, List.getElem?_cons_succ, List.getElem?_cons_zero]; rfl
                · go_simp
                  refine hK.out _ _ (HS9.out.keep) ?_
                  clear hK K hHeld
                  intro hHeld
                  try simp only [Act.put, List.setIfInBounds_toArray, List.set_cons_zero, List.set_cons_succ]
                  refine wpAnyH_take (i := 10) (oi := ?_) (v := ?_) ?_ (by kernel_rfl) (by kernel_rfl) (by kernel_rfl) ?_ (Or.inl ⟨?_, ?_⟩) hHeld ?_
                  rotate_left 2
                  · simp only [List.getElem?_toArray, List.getElem?_cons_succ, List.getElem?_cons_zero]; rfl
                  · exact fun _ _ _ h => h
                  · rfl
                  · intro w hSw; (try dsimp only at hSw); go_simp; try (with_reducible rfl)
                  try simp only [Act.put, List.setIfInBounds_toArray, List.set_cons_zero, List.set_cons_succ]
                  refine wpAnyH_take (i := 11) (oi := ?_) (v := ?_) ?_ (by kernel_rfl) (by kernel_rfl) (by kernel_rfl) ?_ (Or.inl ⟨?_, ?_⟩) hHeld ?_
                  rotate_left 2
                  · simp only [List.getElem?_toArray, List.getElem?_cons_succ, List.getElem?_cons_zero]; rfl
                  · exact fun _ _ _ h => h
                  · rfl
                  · intro w hSw; (try dsimp only at hSw); go_simp; try (with_reducible rfl)
                  try simp only [Act.put, List.setIfInBounds_toArray, List.set_cons_zero, List.set_cons_succ]
                  refine wpAnyH_done (by kernel_rfl) ?_ _
                  clear hHeld
                  go_wp2_with fail
                  refine bodyPost_ret (v := .tuple #[.agg (repC v Wd (some ⟨g, 0, none⟩) 1 1), .bool false, .bool false]) (res_cell_tmp2_row rfl _ _ w.heap.size 24 _ (0, 0) _ rfl HS9.out.fin_row Tryd.underlying24 rfl rep_size _ _ rfl rfl) rfl (one_fail HF.out HS9.out.fin_mod)
                exact AllReadyH.nil
              exact AllReadyH.nil
            · have HGd := Lib.hid (show goodB ⟨(v : Int), nums Wd, [nums Rd]⟩ = true by rw [HWl.out, HRl.out]; exact hg)
              have HF := Lib.hid (hone2.trans hg)
              clear hg hone2
              go_enter Tryd.func30, Tryd.ntmps30
              go_wp2_with (go_at_call 33; refine HNum.out.mono ?_; rintro e w1 ⟨rfl, hm1⟩; have HM1 := Lib.hid (HM0.out.trans hm1); have HR1 := Lib.hid (hm1.row HN0.out (by simp)); have k0 := blk_cell HR1.out 0; have z0 := blk_free HR1.out 0; have k1 := blk_cell HR1.out 1; have z1 := blk_free HR1.out 1; have k2 := blk_cell HR1.out 2; have z2 := blk_free HR1.out 2; have hlt0 := blk_lt HR1.out; clear hm1; unfold numV)
              have hr1 := blk_set HR1.out 0 (.int .i64 v)
              have hmc : Mod [w.heap.size] w (w1.setCell ⟨w.heap.size, 0, none⟩ (.int .i64 v)) := (HM1.out.mono (by simp)).setCell (Or.inl (by simp)) _
              have HCut := Lib.hid (ccut_any T _ (HE2.out _ hmc) HTs.out)
              rw [HWn.out, HRn.out, HBn.out] at HCut
              have HMc := Lib.hid hmc
              have HRc := Lib.hid (show (w1.setCell ⟨w.heap.size, 0, none⟩ (.int .i64 v)).heap[w.heap.size]? = some (.cells (repC v ByteArray.empty none 0 0) 24 (0, 0)) from hr1)
              clear hr1 hmc
              refine HCut.out.mono ?_
              rintro e w2 ⟨rfl, hm2⟩
              have HR2 := Lib.hid (hm2.row HRc.out (by simp))
              have HM2 := Lib.hid (HMc.out.trans (hm2.mono (by simp)))
              have hlt2 := blk_lt HR2.out
              clear k0 k1 k2 z0 z1 z2 hm2 hlt0
              have k0 := blk_cell HR2.out 0
              have k1 := blk_cell HR2.out 1
              have k2 := blk_cell HR2.out 2
              have z0 := blk_free HR2.out 0
              have z1 := blk_free HR2.out 1
              have z2 := blk_free HR2.out 2
              go_wp2_with fail
              have hs4 : Sgl w w.heap.size v Wd (nums Rd) w2.heap.size (((w2.setCell ⟨w.heap.size, 1, none⟩ (.string Wd)).setCell ⟨w.heap.size, 2, none⟩ (.slice (some ⟨w2.heap.size, 0, none⟩) 1 1)).alloc (.cells #[.string Rd] 9)) :=
                ⟨((Mod.refl [] _).alloc _).row (erow HR2.out) (by simp), new_text _ _ (by simp) Rd, ((HM2.out.setCell (Or.inl (by simp)) _).setCell (Or.inl (by simp)) _).alloc _, by omega⟩
              generalize ((w2.setCell ⟨w.heap.size, 1, none⟩ (.string Wd)).setCell ⟨w.heap.size, 2, none⟩ (.slice (some ⟨w2.heap.size, 0, none⟩) 1 1)).alloc (.cells #[.string Rd] 9) = w4 at *
              generalize w2.heap.size = g at *
              have HS5 := Lib.hid hs4
              clear k0 k1 k2 z0 z1 z2 hs4
              have k0 := blk_cell HS5.out.row 0
              have k1 := blk_cell HS5.out.row 1
              have k2 := blk_cell HS5.out.row 2
              have z0 := blk_free HS5.out.row 0
              have z1 := blk_free HS5.out.row 1
              have z2 := blk_free HS5.out.row 2
              refine wp_region_held_drew (S := (fun W => W.cell? ⟨w.heap.size, 0, none⟩ = some (.int .i64 v) ∧ W.cell? ⟨w.heap.size, 1, none⟩ = some (.string Wd) ∧ W.cell? ⟨w.heap.size, 2, none⟩ = some (.slice (some ⟨g, 0, none⟩) 1 1))) (by kernel_rfl) (⟨k0, k1, k2⟩) (fun hHeld => ?_)
              refine wpAnyH_take (i := 0) (oi := ?_) (v := ?_) ?_ (by kernel_rfl) (by kernel_rfl) (by kernel_rfl) ?_ (Or.inl ⟨?_, ?_⟩) hHeld ?_
              rotate_left 2
              · simp only [List.getElem?_toArray, List.getElem?_cons_succ, List.getElem?_cons_zero]; rfl
              · exact fun _ _ _ h => h
              · rfl
              · intro w hSw; (try dsimp only at hSw); go_simp; try (with_reducible rfl)
              try simp only [Act.put, List.setIfInBounds_toArray, List.set_cons_zero, List.set_cons_succ]
              refine wpAnyH_take (i := 1) (oi := ?_) (v := ?_) ?_ (by kernel_rfl) (by kernel_rfl) (by kernel_rfl) ?_ (Or.inl ⟨?_, ?_⟩) hHeld ?_
              rotate_left 2
              · simp only [List.getElem?_toArray, List.getElem?_cons_succ, List.getElem?_cons_zero]; rfl
              · exact fun _ _ _ h => h
              · rfl
              · intro w hSw; (try dsimp only at hSw); go_simp; try (with_reducible rfl)
              try simp only [Act.put, List.setIfInBounds_toArray, List.set_cons_zero, List.set_cons_succ]
              refine wpAnyH_take (i := 2) (oi := ?_) (v := ?_) ?_ (by kernel_rfl) (by kernel_rfl) (by kernel_rfl) ?_ (Or.inl ⟨?_, ?_⟩) hHeld ?_
              rotate_left 2
              · simp only [List.getElem?_toArray, List.getElem?_cons_succ, List.getElem?_cons_zero]; rfl
              · exact fun _ _ _ h => h
              · rfl
              · intro w hSw; (try dsimp only at hSw); go_simp; try (with_reducible rfl)
              try simp only [Act.put, List.setIfInBounds_toArray, List.set_cons_zero, List.set_cons_succ]
              refine wpAnyH_take (i := 3) (oi := ?_) (v := ?_) ?_ (by kernel_rfl) (by kernel_rfl) (by kernel_rfl) ?_ (Or.inl ⟨?_, ?_⟩) hHeld ?_
              rotate_left 2
              · simp only [List.getElem?_toArray, List.getElem?_cons_succ, List.getElem?_cons_zero]; rfl
              · exact fun _ _ _ h => h
              · rfl
              · intro w hSw; (try dsimp only at hSw); go_simp; try (with_reducible rfl)
              try simp only [Act.put, List.setIfInBounds_toArray, List.set_cons_zero, List.set_cons_succ]
              refine wpAnyH_take (i := 4) (oi := ?_) (v := ?_) ?_ (by kernel_rfl) (by kernel_rfl) (by kernel_rfl) ?_ (Or.inl ⟨?_, ?_⟩) hHeld ?_
              rotate_left 2
              · simp only [List.getElem?_toArray, List.getElem?_cons_succ, List.getElem?_cons_zero]; rfl
              · exact fun _ _ _ h => h
              · rfl
              · intro w hSw; (try dsimp only at hSw); go_simp; try (with_reducible rfl)
              try simp only [Act.put, List.setIfInBounds_toArray, List.set_cons_zero, List.set_cons_succ]
              refine wpAnyH_take (i := 5) (oi := ?_) (v := ?_) ?_ (by kernel_rfl) (by kernel_rfl) (by kernel_rfl) ?_ (Or.inl ⟨?_, ?_⟩) hHeld ?_
              rotate_left 2
              · simp only [List.getElem?_toArray, List.getElem?_cons_succ, List.getElem?_cons_zero]; rfl
              · exact fun _ _ _ h => h
              · rfl
              · intro w hSw; (try dsimp only at hSw); go_simp; try (with_reducible rfl)
              try simp only [Act.put, List.setIfInBounds_toArray, List.set_cons_zero, List.set_cons_succ]
              refine wpAnyH_take (i := 6) (oi := ?_) (v := ?_) ?_ (by kernel_rfl) (by kernel_rfl) (by kernel_rfl) ?_ (Or.inl ⟨?_, ?_⟩) hHeld ?_
              rotate_left 2
              · simp only [List.getElem?_toArray, List.getElem?_cons_succ, List.getElem?_cons_zero]; rfl
              · exact fun _ _ _ h => h
              · rfl
              · intro w hSw; (try dsimp only at hSw); go_simp; try (with_reducible rfl)
              try simp only [Act.put, List.setIfInBounds_toArray, List.set_cons_zero, List.set_cons_succ]
              refine wpAnyH_ready (rs := [7]) (by kernel_rfl) (by simp) ?_
              refine AllReadyH.cons (o := ?_) ?_ (fun K hK => ?_) ?_
              rotate_left
              · simp only [List.getElem?_toArray, List.getElem?_cons_succ, List.getElem?_cons_zero]; rfl
              · go_simp
                refine (good_any _ (HE2.out _ HS5.out.drew.mod) v Wd (some ⟨g, 0, none⟩) 1 1 [nums Rd] HS5.out.drew.txt rfl HEsz.out (by intro l hl; simp at hl; subst hl; exact HTsz.out) (by simp)).mono ?_
                rintro e w9 ⟨rfl, hm9⟩
                rw [HGd.out]
                have HS9 := Lib.hid (HS5.out.drew.quiet hm9)
                clear k0 k1 k2 z0 z1 z2 hm9
                have k0 := blk_cell HS9.out.row 0
                have k1 := blk_cell HS9.out.row 1
                have k2 := blk_cell HS9.out.row 2
                have z0 := blk_free HS9.out.row 0
                have z1 := blk_free HS9.out.row 1
                have z2 := blk_free HS9.out.row 2
                go_wp2_with fail
                refine hK.out _ _ (⟨k0, k1, k2⟩) ?_
                clear hK K hHeld
                intro hHeld
                try simp only [Act.put, List.setIfInBounds_toArray, List.set_cons_zero, List.set_cons_succ]
                refine wpAnyH_take (i := 8) (oi := ?_) (v := ?_) ?_ (by kernel_rfl) (by kernel_rfl) (by kernel_rfl) ?_ (Or.inl ⟨?_, ?_⟩) hHeld ?_
                rotate_left 2
                · simp only [List.getElem?_toArray, List.getElem?_cons_succ, List.getElem?_cons_zero]; rfl
                · exact fun _ _ _ h => h
                · rfl
                · intro w hSw; (try dsimp only at hSw); go_simp; try (with_reducible rfl)
                try simp only [Act.put, List.setIfInBounds_toArray, List.set_cons_zero, List.set_cons_succ]
                refine wpAnyH_ready (rs := [9]) (by kernel_rfl) (by simp) ?_
                refine AllReadyH.cons (o := ?_) ?_ (fun K hK => ?_) ?_
                rotate_left
                · simp only [List.getElem?_toArray, List.getElem?_cons_succ, List.getElem?_cons_zero]; rfl
                · go_simp
                  refine hK.out _ _ (HS9.out.keep) ?_
                  clear hK K hHeld
                  intro hHeld
                  try simp only [Act.put, List.setIfInBounds_toArray, List.set_cons_zero, List.set_cons_succ]
                  refine wpAnyH_take (i := 10) (oi := ?_) (v := ?_) ?_ (by kernel_rfl) (by kernel_rfl) (by kernel_rfl) ?_ (Or.inl ⟨?_, ?_⟩) hHeld ?_
                  rotate_left 2
                  · simp only [List.getElem?_toArray, List.getElem?_cons_succ, List.getElem?_cons_zero]; rfl
                  · exact fun _ _ _ h => h
                  · rfl
                  · intro w hSw; (try dsimp only at hSw); go_simp; try (with_reducible rfl)
                  try simp only [Act.put, List.setIfInBounds_toArray, List.set_cons_zero, List.set_cons_succ]
                  refine wpAnyH_take (i := 11) (oi := ?_) (v := ?_) ?_ (by kernel_rfl) (by kernel_rfl) (by kernel_rfl) ?_ (Or.inl ⟨?_, ?_⟩) hHeld ?_
                  rotate_left 2
                  · simp only [List.getElem?_toArray, List.getElem?_cons_succ, List.getElem?_cons_zero]; rfl
                  · exact fun _ _ _ h => h
                  · rfl
                  · intro w hSw; (try dsimp only at hSw); go_simp; try (with_reducible rfl)
                  try simp only [Act.put, List.setIfInBounds_toArray, List.set_cons_zero, List.set_cons_succ]
                  refine wpAnyH_done (by kernel_rfl) ?_ _
                  clear hHeld
                  go_wp2_with fail
                  refine bodyPost_ret (v := .tuple #[.agg (repC v Wd (some ⟨g, 0, none⟩) 1 1), .bool false, .bool true]) (res_cell_tmp2_row rfl _ _ w.heap.size 24 _ (0, 0) _ rfl HS9.out.fin_row Tryd.underlying24 rfl rep_size _ _ rfl rfl) rfl (one_good HF.out (by rw [HV.out]) (by rw [HV.out]; exact HWl.out) (by rw [HV.out]; exact HRl.out) (by rw [HV.out, ← HX.out]; rfl) HS9.out)
                exact AllReadyH.nil
              exact AllReadyH.nil
end Go.Proofs.YtdedolbaldfmbaaDoor
