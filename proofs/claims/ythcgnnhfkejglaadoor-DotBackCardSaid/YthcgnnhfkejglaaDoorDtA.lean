/- The decoder: its block of memory; stand, keep. -/
import Derived.Test.YthcgnnhfkejglaaDoorBlk
import Derived.Test.YthcgnnhfkejglaaDoorDtT
import Derived.Test.YthcgnnhfkejglaaDoorChecked
import Derived.Deep.QuietTactic
import Derived.BigQuiet
import Derived.IntWalk
import Derived.Deep.CutRange
import Derived.Deep.CutBlock
namespace Go.Proofs.YthcgnnhfkejglaaDoor
open Go.ChangeShapes Go.WideShapes Go.ChangeAt Go.RowKit
set_option linter.unusedVariables false
set_option linter.unusedSimpArgs false

/-- the cells of a decoder -/
abbrev decC (st line M : Nat) (v : Value) (lo ba la : Bool) : Array Value := #[.int .i64 st, .int .i64 line, .int .i64 M, v, .bool lo, .bool ba, .bool la]
abbrev decO (st line M : Nat) (v : Value) (lo ba la : Bool) : Obj := .cells (decC st line M v lo ba la) 51 (0, 0)

/-- behind a call that only writes to the decoder at g: its block anew -/
def SetsP (g : Nat) (o : Obj) (w : World) (e : Ending) (w' : World) : Prop := e = .returned (.tuple #[]) ∧ w'.heap[g]? = some o ∧ Mod [g] w w'

theorem stand_any (w : World) (g : Nat) (st line M : Nat) (v : Value) (lo ba la : Bool) (h : w.heap[g]? = some (decO st line M v lo ba la)) (x : Int) :
    Calls Tryd.prog 34 #[.pointer (some ⟨g, 0, none⟩), .int .u8 x] w (SetsP g (decO (if x = 13 then 3 else 4) line M v lo (ba || decide (x = 10)) la) w) := by
  have H := Lib.hid h
  have c0 := blk_cell h 0
  have z0 := blk_free h 0
  have c5 := blk_cell h 5
  have z5 := blk_free h 5
  clear h
  by_cases h13 : x = 13
  · subst h13
    go_enter Tryd.func34, Tryd.ntmps34
    go_wp2
    go_end0
    refine ⟨rfl, ?_, ((Mod.refl [g] w).setCell (p := ⟨g, 0, none⟩) (Or.inl (by simp)) _).setCell (p := ⟨g, 0, none⟩) (Or.inl (by simp)) _⟩
    rw [blk_set (blk_set H.out 0 _) 0 _]
    simp
  have e13 : (x == 13) = false := by simpa using h13
  by_cases h10 : x = 10
  · subst h10
    go_enter Tryd.func34, Tryd.ntmps34
    go_wp2
    go_end0
    refine ⟨rfl, ?_, ((Mod.refl [g] w).setCell (p := ⟨g, 0, none⟩) (Or.inl (by simp)) _).setCell (p := ⟨g, 5, none⟩) (Or.inl (by simp)) _⟩
    rw [blk_set (blk_set H.out 0 _) 5 _]
    simp
  have e10 : (x == 10) = false := by simpa using h10
  go_enter Tryd.func34, Tryd.ntmps34
  go_wp2
  go_end0
  refine ⟨rfl, ?_, ((Mod.refl [g] w).setCell (p := ⟨g, 0, none⟩) (Or.inl (by simp)) _)⟩
  rw [blk_set H.out 0 _]
  simp [h13, h10]
theorem info8 : (Tryd.prog.info? 5).map (fun i => (i.zero, i.size, i.bytes)) = some (some (.int .u8 0), 1, 1) := by kernel_rfl
theorem mod_drewN (w : World) (n : Nat) : Mod [] w (w.drewN n) := ⟨rfl, rfl, rfl, Nat.le_refl _, fun _ _ _ => rfl⟩
theorem blk_drewN {w : World} {g n : Nat} {o : Obj} (h : w.heap[g]? = some o) : (w.drewN n).heap[g]? = some o := h
/-- behind keep: the decoder has K', in the elder row or in new memory -/
structure KeptP (g : Nat) (v : Value) (K' : List Int) (o : Value → Obj) (w : World) (v' : Value) (w' : World) : Prop where
  row : w'.heap[g]? = some (o v')
  own : w'.ownsRow 0 5 1 v' K'.length (u8s K')
  mod : Mod (g :: v.ownBlock.toList) w w'
  blk : ∀ k, v'.ownBlock = some k → v.ownBlock = some k ∨ w.heap.size ≤ k
theorem dec_ne {w : World} {g st line M : Nat} {v : Value} {lo ba la : Bool} (h : w.heap[g]? = some (decO st line M v lo ba la)) {v' : Value} {n : Nat} {xs : List Value} (hK : w.ownsRow 0 5 1 v' n xs) : ∀ k, v'.ownBlock = some k → k ≠ g := by
  rintro k hk rfl
  exact (owns_isT hK hk).ne (by decide) ⟨_, h⟩
/-- the store of the field behind the append -/
theorem KeptP.put {w w1 w2 : World} {g st line M : Nat} {v v2 : Value} {lo ba la : Bool} {K K' : List Int} (hm : Mod [g] w w1) (h1 : w1.heap[g]? = some (decO st line M v lo ba la)) (hK : w1.ownsRow 0 5 1 v K.length (u8s K)) (hg : Grew 5 w1 v K' v2 w2) :
    KeptP g v K' (fun v' => decO st line M v' lo ba la) w v2 (w2.setCell ⟨g, 3, none⟩ v2) := by
  have hne := dec_ne h1 hK
  have hgl := blk_lt h1
  have h2 : w2.heap[g]? = some (decO st line M v lo ba la) := hg.mod.row h1 (by intro hx; exact hne g (by simpa using hx) rfl)
  refine ⟨by rw [blk_set h2 3 _]; simp, ownsRow_setCell_other hg.own (fun e => dec_ne h2 hg.own g e rfl) _, ?_, ?_⟩
  · refine ((hm.mono (G := g :: v.ownBlock.toList) (by intro x hx; left; simp at hx; simp [hx])).trans' hg.mod (by intro x hx; left; exact List.mem_cons_of_mem _ hx)).setCell (Or.inl (by simp)) _
  · intro k hk
    have := hm.size
    rcases hg.blk with e | e
    · left; rw [← e, hk]
    · right; rw [hk] at e; simp at e; omega

set_option maxHeartbeats 2000000 in
theorem keep_any (w : World) (g : Nat) (st line M : Nat) (v : Value) (lo ba la : Bool) (h : w.heap[g]? = some (decO st line M v lo ba la)) (K : List Int) (hK : w.ownsRow 0 5 1 v K.length (u8s K)) (hM : K.length ≤ M) (hM2 : M ≤ 9223372036854775807) (hKl : K.length ≤ 1000000) (hli : line ≤ 1000000)
    (b n cap : Nat) (r : List Int) (hb : g ≠ b) (hr : Cells8 w (some ⟨b, 0, none⟩) r) (hn : n = r.length) (hnc : n ≤ cap) (hn2 : n ≤ 2) :
    Calls Tryd.prog 33 #[.pointer (some ⟨g, 0, none⟩), .slice (some ⟨b, 0, none⟩) n cap] w fun e w' => e = .returned (.tuple #[]) ∧
      ∃ v', KeptP g v (K ++ r.take (M - K.length)) (fun v' => decO st (line + n) M v' (lo || decide (1000 < line + n)) ba (la || decide (M - K.length < n))) w v' w' := by
  have hne := dec_ne h hK
  obtain ⟨a, c, rfl, -, hc⟩ := owns_shape hK
  unfold maxLen at hc
  have H := Lib.hid h
  have HK := Lib.hid hK
  have HR := Lib.hid hr
  have HN := Lib.hid hn
  have HNe := Lib.hid hne
  have k1 := blk_cell h 1
  have z1 := blk_free h 1
  have k2 := blk_cell h 2
  have k3 := blk_cell h 3
  have k4 := blk_cell h 4
  have z4 := blk_free h 4
  have k6 := blk_cell h 6
  have z6 := blk_free h 6
  clear h hK hr hn hne
  by_cases hlo : 1000 < line + n
  · have hlo' : (1000 : Int) < (line : Int) + (n : Int) := by omega
    by_cases hla : M - K.length < n
    · have hla' : (M : Int) - (K.length : Int) < (n : Int) := by omega
      go_enter Tryd.func33, Tryd.ntmps33
      go_wp2
      go_quiet (fail)
      go_upto_region 7 with (fail)
      have hrow : ((((w.setCell ⟨g, 1, none⟩ (.int .i64 ((line : Int) + (n : Int)))).setCell ⟨g, 4, none⟩ (.bool true)).drewN nq).setCell ⟨g, 6, none⟩ (.bool true)).heap[g]? = some (decO st (line + n) M (.slice a K.length c) true ba true) := by
        have := blk_set (blk_drewN (n := nq) (blk_set (blk_set H.out 1 (.int .i64 ((line : Int) + (n : Int)))) 4 (.bool true))) 6 (.bool true)
        simpa [decO, decC] using this
      have hm : Mod [g] w ((((w.setCell ⟨g, 1, none⟩ (.int .i64 ((line : Int) + (n : Int)))).setCell ⟨g, 4, none⟩ (.bool true)).drewN nq).setCell ⟨g, 6, none⟩ (.bool true)) := ((((Mod.refl [g] w).setCell (p := ⟨g, 1, none⟩) (Or.inl (by simp)) _).setCell (p := ⟨g, 4, none⟩) (Or.inl (by simp)) _).trans' (mod_drewN _ nq) (by simp)).setCell (p := ⟨g, 6, none⟩) (Or.inl (by simp)) _
      generalize (((w.setCell ⟨g, 1, none⟩ (.int .i64 ((line : Int) + (n : Int)))).setCell ⟨g, 4, none⟩ (.bool true)).drewN nq).setCell ⟨g, 6, none⟩ (.bool true) = w1 at *
      have hown := hm.owns HK.out (fun k hk hx => HNe.out k hk (by simpa using hx))
      have hsr : Cells8 w1 (some ⟨b, 0, none⟩) r := HR.out.mod hm (by intro x hx; cases hx; simpa using fun e => hb e.symm)
      have y3 := blk_cell hrow 3
      have x3 := blk_free hrow 3
      have HRow := Lib.hid hrow
      have HM := Lib.hid hm
      have HO := Lib.hid hown
      have HS := Lib.hid hsr
      clear hrow hm hown hsr k1 z1 k2 k3 k4 z4 k6 z6
      have htk : M - K.length = (r.take (M - K.length)).length := by rw [List.length_take, ← HN.out]; omega
      have HT := Lib.hid htk
      clear htk
      go_wp2_with (at_builtin; refine wpList_append8 _ rfl _ _ 22 22 rfl 5 Tryd.underlying22 info8 _ K rfl HO.out _ _ (r.take (M - K.length)) rfl (Src.of8 (HS.out.take (M - K.length)) Tryd.underlying22 _ _ HT.out) (by rw [← HT.out]; omega) _ rfl ?_)
      intro v2 w2 hg
      have hp := KeptP.put HM.out HRow.out HO.out hg
      have hr2 : w2.heap[g]? = some (decO st (line + n) M (.slice a K.length c) true ba true) := hg.mod.row HRow.out (by intro hx; exact HNe.out g (by simpa using hx) rfl)
      have t3 := blk_cell hr2 3
      have u3 := blk_free hr2 3
      obtain ⟨a1, n1, cap1, rfl⟩ := hg.shape'
      have HP := Lib.hid hp
      clear hp hg hr2 y3 x3
      go_wp2
      go_end0
      refine ⟨rfl, .slice a1 n1 cap1, ?_⟩
      have e1 : decide (1000 < line + n) = true := by simpa using hlo
      have e2 : decide (M - K.length < n) = true := by simpa using hla
      simpa only [e1, e2, Bool.or_true, Bool.or_false] using HP.out
    · have hla' : (n : Int) ≤ (M : Int) - (K.length : Int) := by omega
      go_enter Tryd.func33, Tryd.ntmps33
      go_wp2
      go_quiet (fail)
      go_upto_region 7 with (fail)
      have hrow : (((w.setCell ⟨g, 1, none⟩ (.int .i64 ((line : Int) + (n : Int)))).setCell ⟨g, 4, none⟩ (.bool true)).drewN nq).heap[g]? = some (decO st (line + n) M (.slice a K.length c) true ba la) := by
        have := blk_drewN (n := nq) (blk_set (blk_set H.out 1 (.int .i64 ((line : Int) + (n : Int)))) 4 (.bool true))
        simpa [decO, decC] using this
      have hm : Mod [g] w (((w.setCell ⟨g, 1, none⟩ (.int .i64 ((line : Int) + (n : Int)))).setCell ⟨g, 4, none⟩ (.bool true)).drewN nq) := (((Mod.refl [g] w).setCell (p := ⟨g, 1, none⟩) (Or.inl (by simp)) _).setCell (p := ⟨g, 4, none⟩) (Or.inl (by simp)) _).trans' (mod_drewN _ nq) (by simp)
      generalize ((w.setCell ⟨g, 1, none⟩ (.int .i64 ((line : Int) + (n : Int)))).setCell ⟨g, 4, none⟩ (.bool true)).drewN nq = w1 at *
      have hown := hm.owns HK.out (fun k hk hx => HNe.out k hk (by simpa using hx))
      have hsr : Cells8 w1 (some ⟨b, 0, none⟩) r := HR.out.mod hm (by intro x hx; cases hx; simpa using fun e => hb e.symm)
      have y3 := blk_cell hrow 3
      have x3 := blk_free hrow 3
      have HRow := Lib.hid hrow
      have HM := Lib.hid hm
      have HO := Lib.hid hown
      have HS := Lib.hid hsr
      clear hrow hm hown hsr k1 z1 k2 k3 k4 z4 k6 z6
      have htk : r.take (M - K.length) = r := List.take_of_length_le (by rw [← HN.out]; omega)
      have HT := Lib.hid htk
      clear htk
      go_wp2_with (at_builtin; refine wpList_append8 _ rfl _ _ 22 22 rfl 5 Tryd.underlying22 info8 _ K rfl HO.out _ _ r rfl (Src.of8 HS.out Tryd.underlying22 _ _ HN.out) (by rw [← HN.out]; omega) _ rfl ?_)
      intro v2 w2 hg
      have hp := KeptP.put HM.out HRow.out HO.out hg
      have hr2 : w2.heap[g]? = some (decO st (line + n) M (.slice a K.length c) true ba la) := hg.mod.row HRow.out (by intro hx; exact HNe.out g (by simpa using hx) rfl)
      have t3 := blk_cell hr2 3
      have u3 := blk_free hr2 3
      obtain ⟨a1, n1, cap1, rfl⟩ := hg.shape'
      have HP := Lib.hid hp
      clear hp hg hr2 y3 x3
      go_wp2
      go_end0
      refine ⟨rfl, .slice a1 n1 cap1, ?_⟩
      have e1 : decide (1000 < line + n) = true := by simpa using hlo
      have e2 : decide (M - K.length < n) = false := by simp; omega
      simpa only [e1, e2, Bool.or_true, Bool.or_false, HT.out] using HP.out
  · have hlo' : (line : Int) + (n : Int) ≤ 1000 := by omega
    by_cases hla : M - K.length < n
    · have hla' : (M : Int) - (K.length : Int) < (n : Int) := by omega
      go_enter Tryd.func33, Tryd.ntmps33
      go_wp2
      go_quiet (fail)
      go_upto_region 7 with (fail)
      have hrow : (((w.setCell ⟨g, 1, none⟩ (.int .i64 ((line : Int) + (n : Int)))).drewN nq).setCell ⟨g, 6, none⟩ (.bool true)).heap[g]? = some (decO st (line + n) M (.slice a K.length c) lo ba true) := by
        have := blk_set (blk_drewN (n := nq) (blk_set H.out 1 (.int .i64 ((line : Int) + (n : Int))))) 6 (.bool true)
        simpa [decO, decC] using this
      have hm : Mod [g] w (((w.setCell ⟨g, 1, none⟩ (.int .i64 ((line : Int) + (n : Int)))).drewN nq).setCell ⟨g, 6, none⟩ (.bool true)) := (((Mod.refl [g] w).setCell (p := ⟨g, 1, none⟩) (Or.inl (by simp)) _).trans' (mod_drewN _ nq) (by simp)).setCell (p := ⟨g, 6, none⟩) (Or.inl (by simp)) _
      generalize ((w.setCell ⟨g, 1, none⟩ (.int .i64 ((line : Int) + (n : Int)))).drewN nq).setCell ⟨g, 6, none⟩ (.bool true) = w1 at *
      have hown := hm.owns HK.out (fun k hk hx => HNe.out k hk (by simpa using hx))
      have hsr : Cells8 w1 (some ⟨b, 0, none⟩) r := HR.out.mod hm (by intro x hx; cases hx; simpa using fun e => hb e.symm)
      have y3 := blk_cell hrow 3
      have x3 := blk_free hrow 3
      have HRow := Lib.hid hrow
      have HM := Lib.hid hm
      have HO := Lib.hid hown
      have HS := Lib.hid hsr
      clear hrow hm hown hsr k1 z1 k2 k3 k4 z4 k6 z6
      have htk : M - K.length = (r.take (M - K.length)).length := by rw [List.length_take, ← HN.out]; omega
      have HT := Lib.hid htk
      clear htk
      go_wp2_with (at_builtin; refine wpList_append8 _ rfl _ _ 22 22 rfl 5 Tryd.underlying22 info8 _ K rfl HO.out _ _ (r.take (M - K.length)) rfl (Src.of8 (HS.out.take (M - K.length)) Tryd.underlying22 _ _ HT.out) (by rw [← HT.out]; omega) _ rfl ?_)
      intro v2 w2 hg
      have hp := KeptP.put HM.out HRow.out HO.out hg
      have hr2 : w2.heap[g]? = some (decO st (line + n) M (.slice a K.length c) lo ba true) := hg.mod.row HRow.out (by intro hx; exact HNe.out g (by simpa using hx) rfl)
      have t3 := blk_cell hr2 3
      have u3 := blk_free hr2 3
      obtain ⟨a1, n1, cap1, rfl⟩ := hg.shape'
      have HP := Lib.hid hp
      clear hp hg hr2 y3 x3
      go_wp2
      go_end0
      refine ⟨rfl, .slice a1 n1 cap1, ?_⟩
      have e1 : decide (1000 < line + n) = false := by simp; omega
      have e2 : decide (M - K.length < n) = true := by simpa using hla
      simpa only [e1, e2, Bool.or_true, Bool.or_false] using HP.out
    · have hla' : (n : Int) ≤ (M : Int) - (K.length : Int) := by omega
      go_enter Tryd.func33, Tryd.ntmps33
      go_wp2
      go_quiet (fail)
      go_upto_region 7 with (fail)
      have hrow : ((w.setCell ⟨g, 1, none⟩ (.int .i64 ((line : Int) + (n : Int)))).drewN nq).heap[g]? = some (decO st (line + n) M (.slice a K.length c) lo ba la) := by
        have := blk_drewN (n := nq) (blk_set H.out 1 (.int .i64 ((line : Int) + (n : Int))))
        simpa [decO, decC] using this
      have hm : Mod [g] w ((w.setCell ⟨g, 1, none⟩ (.int .i64 ((line : Int) + (n : Int)))).drewN nq) := ((Mod.refl [g] w).setCell (p := ⟨g, 1, none⟩) (Or.inl (by simp)) _).trans' (mod_drewN _ nq) (by simp)
      generalize (w.setCell ⟨g, 1, none⟩ (.int .i64 ((line : Int) + (n : Int)))).drewN nq = w1 at *
      have hown := hm.owns HK.out (fun k hk hx => HNe.out k hk (by simpa using hx))
      have hsr : Cells8 w1 (some ⟨b, 0, none⟩) r := HR.out.mod hm (by intro x hx; cases hx; simpa using fun e => hb e.symm)
      have y3 := blk_cell hrow 3
      have x3 := blk_free hrow 3
      have HRow := Lib.hid hrow
      have HM := Lib.hid hm
      have HO := Lib.hid hown
      have HS := Lib.hid hsr
      clear hrow hm hown hsr k1 z1 k2 k3 k4 z4 k6 z6
      have htk : r.take (M - K.length) = r := List.take_of_length_le (by rw [← HN.out]; omega)
      have HT := Lib.hid htk
      clear htk
      go_wp2_with (at_builtin; refine wpList_append8 _ rfl _ _ 22 22 rfl 5 Tryd.underlying22 info8 _ K rfl HO.out _ _ r rfl (Src.of8 HS.out Tryd.underlying22 _ _ HN.out) (by rw [← HN.out]; omega) _ rfl ?_)
      intro v2 w2 hg
      have hp := KeptP.put HM.out HRow.out HO.out hg
      have hr2 : w2.heap[g]? = some (decO st (line + n) M (.slice a K.length c) lo ba la) := hg.mod.row HRow.out (by intro hx; exact HNe.out g (by simpa using hx) rfl)
      have t3 := blk_cell hr2 3
      have u3 := blk_free hr2 3
      obtain ⟨a1, n1, cap1, rfl⟩ := hg.shape'
      have HP := Lib.hid hp
      clear hp hg hr2 y3 x3
      go_wp2
      go_end0
      refine ⟨rfl, .slice a1 n1 cap1, ?_⟩
      have e1 : decide (1000 < line + n) = false := by simp; omega
      have e2 : decide (M - K.length < n) = false := by simp; omega
      simpa only [e1, e2, Bool.or_true, Bool.or_false, HT.out] using HP.out
end Go.Proofs.YthcgnnhfkejglaaDoor
