/- Replies: the reference's Read, without enhanced codes. -/
import Derived.Test.YtdedolbaldfmbaaDoorRpM
import Derived.Deep.LoopGhost
namespace Go.Proofs.YtdedolbaldfmbaaDoor
open Go.Shelf Go.ChangeShapes Go.WideShapes Go.ChangeAt Go.RowKit
set_option linter.unusedVariables false
set_option linter.unusedSimpArgs false

def endAt (l : List Int) (i : Nat) : Int := if endP (l.drop i) = 0 then -1 else ((i + endP (l.drop i) : Nat) : Int)
theorem endAt_hit {l : List Int} {i : Nat} (h : i + 1 < l.length) (hx : l.getD i 0 = 13) (hy : l.getD (i + 1) 0 = 10) : endAt l i = (i : Int) + 2 := by
  have e : endP (l.drop i) = 2 := by rw [drop_at (by omega), drop_at (by omega), hx, hy]; exact endP_hit _
  unfold endAt
  rw [e]; simp
theorem endAt_miss {l : List Int} {i : Nat} (h : i < l.length) (hx : ¬ (l.getD i 0 = 13 ∧ l.getD (i + 1) 0 = 10)) : endAt l (i + 1) = endAt l i := by
  have e : endP (l.drop i) = if endP (l.drop (i + 1)) = 0 then 0 else endP (l.drop (i + 1)) + 1 := by
    rw [drop_at h, endP_miss]
    rintro ⟨h1, h2⟩
    refine hx ⟨h1, ?_⟩
    by_cases hi : i + 1 < l.length
    · rw [drop_at hi] at h2; simpa using h2
    · rw [List.drop_eq_nil_of_le (by omega)] at h2; cases h2
  unfold endAt
  rw [e]
  by_cases h0 : endP (l.drop (i + 1)) = 0
  · simp [h0]
  · simp only [h0, if_false]
    rw [if_neg (by omega)]
    omega
theorem endAt_none {l : List Int} {i : Nat} (h : l.length ≤ i + 1) : endAt l i = -1 := by
  have e : endP (l.drop i) = 0 := by
    by_cases hi : i < l.length
    · rw [drop_at hi, List.drop_eq_nil_of_le (by omega)]; exact endP_one _
    · rw [List.drop_eq_nil_of_le (by omega)]; rfl
  unfold endAt
  rw [if_pos e]
theorem endP_of_at {l : List Int} {p i : Nat} (h : endAt l p = (i : Int) + 2) : endP (l.drop p) ≠ 0 ∧ p + endP (l.drop p) = i + 2 := by
  unfold endAt at h
  split at h
  · omega
  · rename_i h0
    exact ⟨h0, by omega⟩
theorem endP_not_at {l : List Int} {p : Nat} (h : endAt l p = -1) : endP (l.drop p) = 0 := by
  unfold endAt at h
  split at h
  · assumption
  · omega
/-- what the reference hands back -/
abbrev gotC (c : Int) (e : ByteArray) (a : Option Addr) (n cap : Nat) (m z : Int) : Array Value := #[.int .i64 c, .string e, .slice a n cap, .int .i64 m, .int .i64 z]
theorem got_size : (Tryd.prog.info? 44).map (·.size) = some 5 := by kernel_rfl
def GotAt (w' : World) (x : RepD × Nat × Int) (v : Value) : Prop := ∃ en a n cap, v = .agg (gotC x.1.code en a n cap x.2.1 x.2.2) ∧ nums en = x.1.enh ∧ n = x.1.lines.length ∧ TxT w' a x.1.lines
def RGotP (x : RepD × Nat × Int) (w : World) (e : Ending) (w' : World) : Prop := ∃ v, e = .returned v ∧ GotAt w' x v ∧ Mod [] w w'
theorem GotAt.no (w : World) (z : Int) : GotAt w (.zero, 0, z) (.agg (gotC 0 ByteArray.empty none 0 0 0 z)) := ⟨_, _, _, _, rfl, rfl, rfl, CellsS.nil _ _, .inl rfl⟩
def set5 (W : World) (g : Nat) (a b c d e : Value) : World := ((((W.setCell ⟨g, 0, none⟩ a).setCell ⟨g, 1, none⟩ b).setCell ⟨g, 2, none⟩ c).setCell ⟨g, 3, none⟩ d).setCell ⟨g, 4, none⟩ e
theorem set5_mod (W : World) (g : Nat) (a b c d e : Value) : Mod [g] W (set5 W g a b c d e) :=
  (((((Mod.refl [g] W).setCell (Or.inl (by simp)) _).setCell (Or.inl (by simp)) _).setCell (Or.inl (by simp)) _).setCell (Or.inl (by simp)) _).setCell (Or.inl (by simp)) _
theorem set5_row {W : World} {g : Nat} {c c' m m' z z' : Int} {e e' : ByteArray} {a a' : Option Addr} {n n' cap cap' : Nat} (h : W.heap[g]? = some (.cells (gotC c e a n cap m z) 44 (0, 0))) :
    (set5 W g (.int .i64 c') (.string e') (.slice a' n' cap') (.int .i64 m') (.int .i64 z')).heap[g]? = some (.cells (gotC c' e' a' n' cap' m' z') 44 (0, 0)) := by
  have := blk_set (blk_set (blk_set (blk_set (blk_set h 0 (.int .i64 c')) 1 (.string e')) 2 (.slice a' n' cap')) 3 (.int .i64 m')) 4 (.int .i64 z')
  simpa [set5] using this
theorem RdS.set01 {w W : World} {r : Nat} {R : RepD} {en : ByteArray} {sa : Option Addr} {nl cap : Nat} (h : RdS w r R en sa nl cap W) (hr : w.heap.size ≤ r) (c : Int) (e : ByteArray) (p : ByteArray) :
    ((((W.setCell ⟨r, 0, none⟩ (.int .i64 c)).setCell ⟨r, 1, none⟩ (.string e)).alloc (.cells #[.string p] 9)).heap[r]? = some (.cells (repC c e sa nl cap) 24 (0, 0))) ∧
    (((W.setCell ⟨r, 0, none⟩ (.int .i64 c)).setCell ⟨r, 1, none⟩ (.string e)).alloc (.cells #[.string p] 9)).ownsRow r 9 1 (.slice sa nl cap) nl (txs R.lines) ∧
    Mod [r] W (((W.setCell ⟨r, 0, none⟩ (.int .i64 c)).setCell ⟨r, 1, none⟩ (.string e)).alloc (.cells #[.string p] 9)) := by
  have hm : Mod [r] W (((W.setCell ⟨r, 0, none⟩ (.int .i64 c)).setCell ⟨r, 1, none⟩ (.string e)).alloc (.cells #[.string p] 9)) :=
    (((Mod.refl [r] W).setCell (Or.inl (by simp)) _).setCell (Or.inl (by simp)) _).alloc _
  refine ⟨?_, hm.owns h.own ?_, hm⟩
  · refine ((Mod.refl [] _).alloc _).row ?_ (by simp)
    have := blk_set (blk_set h.row 0 (.int .i64 c)) 1 (.string e)
    simpa using this
  · intro k hk hx
    simp at hx
    subst hx
    exact (owns_isT h.own hk).ne (by decide) ⟨_, h.row⟩
theorem own_apart {w4 : World} {r : Nat} {v : Value} {n : Nat} {xs : List Value} (h : w4.ownsRow r 9 1 v n xs) {g : Nat} {cs : Array Value} {t : TypeId} (ht : 9 ≠ t) (hg : w4.heap[g]? = some (.cells cs t (0, 0))) : g ∉ v.ownBlock.toList := by
  intro hk
  exact (owns_isT h (by simpa using hk)).ne ht ⟨cs, hg⟩
/-- behind the append: the next state -/
theorem RdS.push {w W4 : World} {r : Nat} {R : RepD} {en : ByteArray} {a4 : Option Addr} {n4 c4 : Nat} {e0 : ByteArray} {s0 : Option Addr} {n0 k0 : Nat} (hr : W4.heap[r]? = some (.cells (repC R.code en s0 n0 k0) 24 (0, 0)))
    (hown : W4.ownsRow r 9 1 (.slice a4 n4 c4) n4 (txs R.lines)) (hen : nums en = R.enh) (hby : ∀ l ∈ R.lines, Bytes l) (hm : Mod [] w W4) (hrw : w.heap.size ≤ r) :
    RdS w r R en a4 n4 c4 (W4.setCell ⟨r, 2, none⟩ (.slice a4 n4 c4)) := by
  have hm2 : Mod [r] W4 (W4.setCell ⟨r, 2, none⟩ (.slice a4 n4 c4)) := (Mod.refl [r] W4).setCell (Or.inl (by simp)) _
  refine ⟨?_, hm2.owns hown ?_, hen, hby, hm.trans' hm2 ?_⟩
  · have := blk_set hr 2 (.slice a4 n4 c4)
    simpa using this
  · intro k hk hx
    simp at hx
    subst hx
    exact (owns_isT hown hk).ne (by decide) ⟨_, hr⟩
  · intro x hx
    simp at hx
    subst hx
    exact Or.inr hrw
theorem TxT.set5 {W : World} {g : Nat} {a : Option Addr} {L : List (List Int)} (h : TxT W a L) {cs : Array Value} (hg : W.heap[g]? = some (.cells cs 44 (0, 0))) (x y z t u : Value) : TxT (set5 W g x y z t u) a L := by
  obtain ⟨h1, h2⟩ := h
  have hm := set5_mod W g x y z t u
  rcases h2 with rfl | ⟨q, rfl, h3⟩
  · exact ⟨CellsS.nil _ _, .inl rfl⟩
  · have hx : q.block ∉ [g] := by
      intro hx
      simp at hx
      rw [hx] at h3
      exact h3.ne (by decide) ⟨_, hg⟩
    exact ⟨h1.mod hm (by intro y hy; cases hy; exact hx), .inr ⟨q, rfl, h3.mod hm hx⟩⟩
theorem RdS.txt {w W : World} {r : Nat} {R : RepD} {en : ByteArray} {sa : Option Addr} {nl cap : Nat} (h : RdS w r R en sa nl cap W) : TxT W sa R.lines := by
  obtain ⟨en', a', n', c', h1, h2, h3, h4⟩ := h.at_
  simp only [Value.agg.injEq] at h1
  have h5 := congrArg (fun x : Array Value => x[2]?) h1
  simp at h5
  obtain ⟨rfl, -, -⟩ := h5
  exact h4
theorem one_nodig {enh : Bool} {l : List Int} {j : Nat} (hl : 4 ≤ l.length) (hj : j < 3) (h : isD (l.getD j 0) = false) : oneB enh l = false := by
  have : (l.take 3).all isD = false := all_no (k := j) (by rw [List.length_take]; omega) (by rw [getD_take_lt _ _ _ hj]; exact h)
  unfold oneB; rw [this]; simp
theorem one_code {enh : Bool} {l : List Int} (h : codeB (valD (l.take 3)) = false) : oneB enh l = false := by unfold oneB; rw [h]; simp
theorem one_unplain {l : List Int} (h : plainB (l.drop 4) = false) : oneB false l = false := by unfold oneB; simp [h]
theorem one_nocut {l : List Int} (h : cutB 32 (l.drop 4) = false) : oneB true l = false := by unfold oneB; simp [h]
theorem one_unfit {l : List Int} (h : fitB (cutW 32 (l.drop 4)) (valD (l.take 3)) = false) : oneB true l = false := by unfold oneB; simp [h]
theorem one_unplain2 {l : List Int} (h : plainB (cutR 32 (l.drop 4)) = false) : oneB true l = false := by unfold oneB; simp [h]
theorem one_yes {l : List Int} (h4 : 4 ≤ l.length) (hs : l.getD 3 0 = 45 ∨ l.getD 3 0 = 32) (hd : ∀ i, i < 3 → isD (l.getD i 0) = true) (hc : codeB (valD (l.take 3)) = true) (hp : plainB (l.drop 4) = true) : oneB false l = true := by
  have hd3 : (l.take 3).all isD = true := by
    rw [List.all_eq_true]
    intro x hx
    obtain ⟨i, hi, rfl⟩ := List.getElem_of_mem hx
    have h3 : i < 3 := by rw [List.length_take] at hi; omega
    have := hd i h3
    rw [← getD_take_lt l 3 i h3] at this
    have e : (l.take 3).getD i 0 = (l.take 3)[i] := by simp only [List.getD, List.getElem?_eq_getElem hi, Option.getD_some]
    rwa [e] at this
  have e2 : (l.getD 3 0 == 45 || l.getD 3 0 == 32) = true := by rcases hs with hs | hs <;> rw [hs] <;> rfl
  unfold oneB
  rw [e2, hd3, hc, hp, decide_eq_true h4]; rfl
theorem one_yes2 {l : List Int} (h4 : 4 ≤ l.length) (hs : l.getD 3 0 = 45 ∨ l.getD 3 0 = 32) (hd : ∀ i, i < 3 → isD (l.getD i 0) = true) (hc : codeB (valD (l.take 3)) = true) (hb : cutB 32 (l.drop 4) = true) (hf : fitB (cutW 32 (l.drop 4)) (valD (l.take 3)) = true) (hp : plainB (cutR 32 (l.drop 4)) = true) : oneB true l = true := by
  have hd3 : (l.take 3).all isD = true := by
    rw [List.all_eq_true]
    intro x hx
    obtain ⟨i, hi, rfl⟩ := List.getElem_of_mem hx
    have h3 : i < 3 := by rw [List.length_take] at hi; omega
    have := hd i h3
    rw [← getD_take_lt l 3 i h3] at this
    have e : (l.take 3).getD i 0 = (l.take 3)[i] := by simp only [List.getD, List.getElem?_eq_getElem hi, Option.getD_some]
    rwa [e] at this
  have e2 : (l.getD 3 0 == 45 || l.getD 3 0 == 32) = true := by rcases hs with hs | hs <;> rw [hs] <;> rfl
  unfold oneB
  rw [e2, hd3, hc, hb, hf, hp, decide_eq_true h4]; rfl
theorem slice_mid (s : ByteArray) (i j : Nat) (hij : i ≤ j) (hj : j ≤ s.size) (D : ByteArray) (hD : s.extract i j = D) : ∀ W, (Instr.slice 9 (.string s) (some (.int .i64 (i : Int))) (some (.int .i64 (j : Int))) none).run Tryd.prog W = .ok (.string D) W := fun W => by
  rw [run_slice_string_if W _ s .i64 .i64 _ _ Tryd.underlying9, if_pos (by omega), if_pos (by omega), ← hD]
  simp
set_option maxRecDepth 100000 in
set_option maxHeartbeats 8000000 in
theorem rread_plain (s : ByteArray) (f : Nat) (w : World) (hs : s.size ≤ 100000) (hf : f ≤ s.size) :
    Calls Tryd.prog 17 #[.string s, .int .i64 f, .bool false] w (RGotP (readR false .zero ((nums s).drop f) 0) w) := by
  have HL := Lib.hid (nums_length s)
  have hm0 : Mod [] w ((w.alloc (.cells (gotC 0 ByteArray.empty none 0 0 0 0) 44)).alloc (.cells (repC 0 ByteArray.empty none 0 0) 24)) := ((Mod.refl [] w).alloc _).alloc _
  have hn0 := heap_alloc_new w (.cells (gotC 0 ByteArray.empty none 0 0 0 0) 44)
  have hn1 := heap_alloc_new (w.alloc (.cells (gotC 0 ByteArray.empty none 0 0 0 0) 44)) (.cells (repC 0 ByteArray.empty none 0 0) 24)
  have hn0' := ((Mod.refl [] _).alloc (.cells (repC 0 ByteArray.empty none 0 0) 24)).row hn0 (by simp)
  have hz : (w.alloc (.cells (gotC 0 ByteArray.empty none 0 0 0 0) 44)).heap.size = w.heap.size + 1 := by simp
  rw [hz] at hn1
  have HG0 := Lib.hid hn0'
  have HS0 := Lib.hid (show RdS w (w.heap.size + 1) .zero ByteArray.empty none 0 0 ((w.alloc (.cells (gotC 0 ByteArray.empty none 0 0 0 0) 44)).alloc (.cells (repC 0 ByteArray.empty none 0 0) 24)) from ⟨hn1, World.ownsRow_nil _ _ _ _, rfl, nofun, hm0⟩)
  clear hn0 hn1 hn0' hz hm0
  go_enter Tryd.func17, Tryd.ntmps17
  go_wp2_with fail
  go_loopg [8] (s.size - f) (fun g v wx => ∃ (k : Nat) (R : RepD) (en : ByteArray) (sa : Option Addr) (nl sc : Nat), v = .int .i64 (f + k : Nat) ∧ f + k ≤ s.size ∧ g = s.size - f - k ∧ RdS w (w.heap.size + 1) R en sa nl sc wx ∧ wx.heap[w.heap.size]? = some (.cells (gotC 0 ByteArray.empty none 0 0 0 0) 44 (0, 0)) ∧ readR false R (((nums s).drop f).drop k) k = readR false .zero ((nums s).drop f) 0 ∧ R.lines.length ≤ k)
  case atStart => exact ⟨0, .zero, ByteArray.empty, none, 0, 0, rfl, by simpa using hf, by simp, HS0.out, HG0.out, rfl, Nat.le_refl _⟩
  case round =>
    obtain ⟨k, R, en, sa, nl, sc, rfl, hk, rfl, hS, hG, hR, hRl⟩ := hrel
    rw [List.drop_drop] at hR
    have hgl : (nums s).drop (f + k) = (nums s).drop (f + k) := rfl
    clear hgl
    generalize hp : f + k = p at *
    have HP := Lib.hid hp
    have HS := Lib.hid hS
    have HG := Lib.hid hG
    have HRr := Lib.hid hR
    have HRl := Lib.hid hRl
    have HlR := Lib.hid hS.len
    obtain ⟨Lp, hLp⟩ : ∃ Lp, (nums s).drop p = Lp := ⟨_, rfl⟩
    have HLp := Lib.hid hLp
    clear hp hS hG hR hRl hLp HS0 HG0
    have k0 := blk_cell HG.out 0
    have k1 := blk_cell HG.out 1
    have k2 := blk_cell HG.out 2
    have k3 := blk_cell HG.out 3
    have k4 := blk_cell HG.out 4
    have z0 := blk_free HG.out 0
    have z1 := blk_free HG.out 1
    have z2 := blk_free HG.out 2
    have z3 := blk_free HG.out 3
    have z4 := blk_free HG.out 4
    have j0 := blk_cell HS.out.row 0
    have j1 := blk_cell HS.out.row 1
    have j2 := blk_cell HS.out.row 2
    have y0 := blk_free HS.out.row 0
    have y1 := blk_free HS.out.row 1
    have y2 := blk_free HS.out.row 2
    go_wp2_with fail
    go_loopg [9] (s.size - p) (fun g v wx => wr = wx ∧ ∃ i : Nat, v = .int .i64 i ∧ p ≤ i ∧ i ≤ s.size ∧ g = s.size - i ∧ endAt (nums s) i = endAt (nums s) p)
    case atStart => exact ⟨rfl, p, rfl, Nat.le_refl _, hk, by simp, rfl⟩
    case round =>
      obtain ⟨rfl, i, rfl, hpi, hi, rfl, hea⟩ := hrel
      have HEa := Lib.hid hea
      clear hea
      by_cases hlt : i + 1 < s.size
      · have hx := str_at s i (by omega)
        have hy := str_at s (i + 1) hlt
        have hlt' : (i : Int) + 1 < (s.size : Int) := by omega
        have hi1 : i < s.size := by omega
        generalize hb1 : ((s[i].toNat : Nat) : Int) = b1 at *
        generalize hb2 : ((s[i + 1].toNat : Nat) : Int) = b2 at *
        have HX := Lib.hid hx
        have HY := Lib.hid hy
        clear hx hy
        by_cases h13 : b1 = 13
        · have e13 : (b1 == 13) = true := by simp [h13]
          by_cases h10 : b2 = 10
          · have e10 : (b2 == 10) = true := by simp [h10]
            have hh := endAt_hit (l := nums s) (i := i) (by rw [HL.out]; exact hlt) (by rw [← HX.out]; exact h13) (by rw [← HY.out]; exact h10)
            rw [HEa.out] at hh
            obtain ⟨hne, hpe⟩ := endP_of_at hh
            rw [HLp.out] at hne hpe
            clear hh h13 h10
            have hgo := readR_go (enh := false) (r := R) (l := Lp) (n := k) hne
            rw [← HLp.out, HRr.out, HLp.out] at hgo
            obtain ⟨m, hm⟩ : ∃ m, i - p = m := ⟨_, rfl⟩
            have hme : endP Lp = m + 2 := by omega
            rw [hme, Nat.add_sub_cancel] at hgo
            have hLpl : Lp.length = s.size - p := by rw [← HLp.out, List.length_drop, HL.out]
            obtain ⟨P, hPx⟩ : ∃ P, s.extract p i = P := ⟨_, rfl⟩
            have hex := slice_mid s p i hpi (by omega) P hPx
            have hPn : nums P = Lp.take m := by rw [← hPx, nums_extract, HLp.out, hm]
            have hPl : (Lp.take m).length = m := by rw [List.length_take]; omega
            have hPs : P.size = m := by rw [← nums_length, hPn, hPl]
            obtain ⟨Ln, hLn⟩ : ∃ Ln, Lp.take m = Ln := ⟨_, rfl⟩
            rw [hLn] at hgo hPn hPl
            have HGo := Lib.hid hgo
            have HPn := Lib.hid hPn
            have HPl := Lib.hid hPl
            have HMe := Lib.hid (show p + m = i by omega)
            have HPs := Lib.hid (show Ln.length = P.size by omega)
            have hPm : P.size ≤ 100000 := by omega
            clear hne hpe hgo hm hme hLpl hPx hPn hPl hLn hPs
            by_cases h4 : P.size < 4
            · have h4' : (P.size : Int) < 4 := by omega
              have HRs := Lib.hid (show readR false .zero ((nums s).drop f) 0 = (.zero, 0, 3) by rw [HGo.out, one_short (by rw [HPs.out]; exact h4)]; rfl)
              clear h4
              go_wp2_with fail
              refine bodyPost_ret (v := .agg (gotC 0 ByteArray.empty none 0 0 0 3)) (results_cell_row rfl _ _ w.heap.size 44 _ (0, 0) _ rfl (set5_row HG.out) Tryd.underlying44 rfl got_size) rfl ?_
              unfold RGotP
              rw [HRs.out]
              exact ⟨_, rfl, GotAt.no _ _, HS.out.mod.trans' (set5_mod _ w.heap.size _ _ _ _ _) (by intro x hx; simp at hx; exact Or.inr (by omega))⟩
            have h4' : ¬ ((P.size : Int) < 4) := by omega
            have h3s : 3 < P.size := by omega
            have HP4 := Lib.hid (show 4 ≤ Ln.length by rw [HPs.out]; omega)
            have hx3 := str_at P 3 h3s
            rw [HPn.out] at hx3
            generalize hb : ((P[3].toNat : Nat) : Int) = b at *
            have HX3 := Lib.hid hx3
            clear hx3 h4
            by_cases hsg : b = 32 ∨ b = 45
            case neg =>
              have e1 : (b != 32) = true := by rw [bne_iff_ne]; omega
              have e2 : (b != 45) = true := by rw [bne_iff_ne]; omega
              have HRs := Lib.hid (show readR false .zero ((nums s).drop f) 0 = (.zero, 0, 3) by rw [HGo.out, one_sign (by rw [← HX3.out]; omega) (by rw [← HX3.out]; omega)]; rfl)
              clear hsg
              go_wp2_with fail
              refine bodyPost_ret (v := .agg (gotC 0 ByteArray.empty none 0 0 0 3)) (results_cell_row rfl _ _ w.heap.size 44 _ (0, 0) _ rfl (set5_row HG.out) Tryd.underlying44 rfl got_size) rfl ?_
              unfold RGotP
              rw [HRs.out]
              exact ⟨_, rfl, GotAt.no _ _, HS.out.mod.trans' (set5_mod _ w.heap.size _ _ _ _ _) (by intro x hx; simp at hx; exact Or.inr (by omega))⟩
            case pos =>
            rcases hsg with rfl | rfl
            · have HSg := Lib.hid (show Ln.getD 3 0 = 45 ∨ Ln.getD 3 0 = 32 by rw [← HX3.out]; simp)
              go_wp2_with fail
              go_loopg [11, 12] 3 (fun g c v wx => wr = wx ∧ ∃ j n : Nat, c = .int .i64 n ∧ v = .int .i64 j ∧ j ≤ 3 ∧ g = 3 - j ∧ n ≤ 999 ∧ n < 10 ^ j ∧ n = valD (Ln.take j) ∧ (∀ i, i < j → isD (Ln.getD i 0) = true))
              case atStart => exact ⟨rfl, 0, 0, rfl, rfl, by omega, rfl, by omega, by simp, by simp [valD], fun i hi => by omega⟩
              case round =>
                obtain ⟨rfl, j, n, rfl, rfl, hj3, rfl, hn9, hnj, hnv, hall⟩ := hrel
                have HNJ := Lib.hid hnj
                have HNV := Lib.hid hnv
                have HAl := Lib.hid hall
                clear hnj hnv hall
                by_cases hj : j < 3
                · have hjP : j < P.size := by omega
                  have hxj := str_at P j hjP
                  rw [HPn.out] at hxj
                  generalize hbj : ((P[j].toNat : Nat) : Int) = bj at *
                  have HXj := Lib.hid hxj
                  clear hxj
                  by_cases h48 : bj < 48
                  · have HRs := Lib.hid (show readR false .zero ((nums s).drop f) 0 = (.zero, 0, 3) by rw [HGo.out, one_nodig HP4.out hj (by rw [← HXj.out, Bool.eq_false_iff]; intro h; rw [isD_iff] at h; omega)]; rfl)
                    go_wp2_with fail
                    refine bodyPost_ret (v := .agg (gotC 0 ByteArray.empty none 0 0 0 3)) (results_cell_row rfl _ _ w.heap.size 44 _ (0, 0) _ rfl (set5_row HG.out) Tryd.underlying44 rfl got_size) rfl ?_
                    unfold RGotP
                    rw [HRs.out]
                    exact ⟨_, rfl, GotAt.no _ _, HS.out.mod.trans' (set5_mod _ w.heap.size _ _ _ _ _) (by intro x hx; simp at hx; exact Or.inr (by omega))⟩
                  have h48' : 48 ≤ bj := by omega
                  clear h48
                  by_cases h57 : 57 < bj
                  · have HRs := Lib.hid (show readR false .zero ((nums s).drop f) 0 = (.zero, 0, 3) by rw [HGo.out, one_nodig HP4.out hj (by rw [← HXj.out, Bool.eq_false_iff]; intro h; rw [isD_iff] at h; omega)]; rfl)
                    go_wp2_with fail
                    refine bodyPost_ret (v := .agg (gotC 0 ByteArray.empty none 0 0 0 3)) (results_cell_row rfl _ _ w.heap.size 44 _ (0, 0) _ rfl (set5_row HG.out) Tryd.underlying44 rfl got_size) rfl ?_
                    unfold RGotP
                    rw [HRs.out]
                    exact ⟨_, rfl, GotAt.no _ _, HS.out.mod.trans' (set5_mod _ w.heap.size _ _ _ _ _) (by intro x hx; simp at hx; exact Or.inr (by omega))⟩
                  have h57' : bj ≤ 57 := by omega
                  clear h57
                  have HD1 := Lib.hid (show isD (Ln.getD j 0) = true by rw [← HXj.out, isD_iff]; exact ⟨h48', h57'⟩)
                  have HALL := Lib.hid (show ∀ i, i < j + 1 → isD (Ln.getD i 0) = true by
                    intro i hi
                    rcases Nat.lt_or_ge i j with h | h
                    · exact HAl.out i h
                    · rw [show i = j by omega]; exact HD1.out)
                  have hn1 : 10 * n + 9 ≤ 999 := n999 hj HNJ.out
                  have HN1 := Lib.hid (show 10 * n + (bj - 48).toNat < 10 ^ (j + 1) by
                    have h := HNJ.out
                    rw [Nat.pow_succ]
                    omega)
                  have HNV2 := Lib.hid (show 10 * n + (bj - 48).toNat = valD (Ln.take (j + 1)) by rw [valD_take Ln j (by have := HP4.out; omega), ← HNV.out, ← HXj.out])
                  go_wp2_with fail
                  go_roundg (3 - (j + 1))
                  case measure => omega
                  case rel => exact ⟨rfl, j + 1, 10 * n + (bj - 48).toNat, by go_num, by go_num, by omega, rfl, by omega, HN1.out, HNV2.out, HALL.out⟩
                · have hjI : ¬ ((j : Int) < 3) := by omega
                  have hj3' : j = 3 := by omega
                  have hnv := HNV.out
                  have hal := HAl.out
                  rw [hj3'] at hnv hal
                  have HV := Lib.hid hnv
                  have HD3 := Lib.hid hal
                  clear hnv hal hj HNV HAl HNJ hj3'
                  obtain ⟨T, hTx⟩ : ∃ T, P.extract 4 P.size = T := ⟨_, rfl⟩
                  have hf4 : ∀ W, (Instr.slice 9 (.string P) (some (.int .i64 4)) none none).run Tryd.prog W = .ok (.string T) W := slice_from P 4 (by omega) T hTx
                  have hTn : nums T = Ln.drop 4 := by rw [← hTx, nums_extract, HPn.out, List.take_of_length_le (by rw [List.length_drop, HPs.out]; omega)]
                  have HTn := Lib.hid hTn
                  have hTs : T.size ≤ 100000 := by rw [← nums_length, hTn, List.length_drop, HPs.out]; omega
                  clear hTx hTn
                  by_cases hc1 : n < 200
                  · have hc1' : (n : Int) < 200 := by omega
                    have HRs := Lib.hid (show readR false .zero ((nums s).drop f) 0 = (.zero, 0, 3) by rw [HGo.out, one_code (by rw [← HV.out]; simp [codeB]; omega)]; rfl)
                    go_wp2_with fail
                    refine bodyPost_ret (v := .agg (gotC 0 ByteArray.empty none 0 0 0 3)) (results_cell_row rfl _ _ w.heap.size 44 _ (0, 0) _ rfl (set5_row HG.out) Tryd.underlying44 rfl got_size) rfl ?_
                    unfold RGotP
                    rw [HRs.out]
                    exact ⟨_, rfl, GotAt.no _ _, HS.out.mod.trans' (set5_mod _ w.heap.size _ _ _ _ _) (by intro x hx; simp at hx; exact Or.inr (by omega))⟩
                  have hc1' : ¬ ((n : Int) < 200) := by omega
                  by_cases hc2 : 599 < n
                  · have hc2' : (599 : Int) < (n : Int) := by omega
                    have HRs := Lib.hid (show readR false .zero ((nums s).drop f) 0 = (.zero, 0, 3) by rw [HGo.out, one_code (by rw [← HV.out]; simp [codeB]; omega)]; rfl)
                    go_wp2_with fail
                    refine bodyPost_ret (v := .agg (gotC 0 ByteArray.empty none 0 0 0 3)) (results_cell_row rfl _ _ w.heap.size 44 _ (0, 0) _ rfl (set5_row HG.out) Tryd.underlying44 rfl got_size) rfl ?_
                    unfold RGotP
                    rw [HRs.out]
                    exact ⟨_, rfl, GotAt.no _ _, HS.out.mod.trans' (set5_mod _ w.heap.size _ _ _ _ _) (by intro x hx; simp at hx; exact Or.inr (by omega))⟩
                  have hc2' : ¬ ((599 : Int) < (n : Int)) := by omega
                  have HCb := Lib.hid (show codeB (valD (Ln.take 3)) = true by rw [← HV.out]; simp [codeB]; omega)
                  clear hc1 hc2
                  have HPl2 := Lib.hid (rplain_any T wr hTs)
                  cases hpl : plainB (nums T)
                  · rw [hpl] at HPl2
                    have HRs := Lib.hid (show readR false .zero ((nums s).drop f) 0 = (.zero, 0, 3) by rw [HGo.out, one_unplain (by rw [← HTn.out]; exact hpl)]; rfl)
                    go_wp2_with (go_at_call 28; refine HPl2.out.mono ?_; rintro e w9 ⟨rfl, rfl⟩)
                    refine bodyPost_ret (v := .agg (gotC 0 ByteArray.empty none 0 0 0 3)) (results_cell_row rfl _ _ w.heap.size 44 _ (0, 0) _ rfl (set5_row HG.out) Tryd.underlying44 rfl got_size) rfl ?_
                    unfold RGotP
                    rw [HRs.out]
                    exact ⟨_, rfl, GotAt.no _ _, HS.out.mod.trans' (set5_mod _ w.heap.size _ _ _ _ _) (by intro x hx; simp at hx; exact Or.inr (by omega))⟩
                  rw [hpl] at HPl2
                  have HOk := Lib.hid (show oneB false Ln = true from one_yes HP4.out HSg.out HD3.out HCb.out (by rw [← HTn.out]; exact hpl))
                  have HOv := Lib.hid (show oneV false Ln = ⟨n, [], Ln.drop 4, false⟩ by unfold oneV; rw [← HV.out, ← HX3.out]; rfl)
                  clear hpl
                  have hgo2 := HGo.out
                  rw [HOk.out, Bool.true_and, HOv.out] at hgo2
                  have HGo2 := Lib.hid hgo2
                  clear hgo2
                  cases hsm : sameB R ⟨n, [], Ln.drop 4, false⟩
                  · have HRs := Lib.hid (show readR false .zero ((nums s).drop f) 0 = (.zero, 0, 3) by rw [HGo2.out, hsm]; rfl)
                    have hnl0 : 0 < nl := by
                      rcases Nat.eq_zero_or_pos nl with h | h
                      · exfalso
                        unfold sameB at hsm
                        rw [decide_eq_true (p := R.lines.length = 0) (by rw [HlR.out]; exact h)] at hsm
                        cases hsm
                      · exact h
                    have hnlI : (0 : Int) < (nl : Int) := by omega
                    by_cases hcc : R.code = n
                    · have q0 : (R.code != (n : Int)) = false := by rw [bne_eq_false_iff_eq]; exact hcc
                      have q1 : (en.toList == ([] : List UInt8)) = false := by
                        rw [beq_eq_false_iff_ne]
                        intro hee
                        unfold sameB at hsm
                        rw [decide_eq_true (p := R.code = (n : Int)) hcc, decide_eq_true (p := R.enh = []) (by rw [← HS.out.enh]; exact nums_nil.2 (toList_nil.1 hee))] at hsm
                        simp at hsm
                      have q2 : en.toList ≠ [] := by rw [beq_eq_false_iff_ne] at q1; exact q1
                      clear hsm hcc
                      go_wp2_with (go_at_call 28; refine HPl2.out.mono ?_; rintro e w9 ⟨rfl, rfl⟩)
                      refine bodyPost_ret (v := .agg (gotC 0 ByteArray.empty none 0 0 0 3)) (results_cell_row rfl _ _ w.heap.size 44 _ (0, 0) _ rfl (set5_row HG.out) Tryd.underlying44 rfl got_size) rfl ?_
                      unfold RGotP
                      rw [HRs.out]
                      exact ⟨_, rfl, GotAt.no _ _, HS.out.mod.trans' (set5_mod _ w.heap.size _ _ _ _ _) (by intro x hx; simp at hx; exact Or.inr (by omega))⟩
                    · have q0 : (R.code != (n : Int)) = true := by rw [bne_iff_ne]; exact hcc
                      clear hsm hcc
                      go_wp2_with (go_at_call 28; refine HPl2.out.mono ?_; rintro e w9 ⟨rfl, rfl⟩)
                      refine bodyPost_ret (v := .agg (gotC 0 ByteArray.empty none 0 0 0 3)) (results_cell_row rfl _ _ w.heap.size 44 _ (0, 0) _ rfl (set5_row HG.out) Tryd.underlying44 rfl got_size) rfl ?_
                      unfold RGotP
                      rw [HRs.out]
                      exact ⟨_, rfl, GotAt.no _ _, HS.out.mod.trans' (set5_mod _ w.heap.size _ _ _ _ _) (by intro x hx; simp at hx; exact Or.inr (by omega))⟩
                  have HSm := Lib.hid hsm
                  by_cases hz : nl = 0
                  · have hz0 := size_zero hz
                    clear hz hsm
                    have hx01 := HS.out.set01 (by omega) (n : Int) ByteArray.empty T
                    obtain ⟨hx1, hx2, hx3⟩ := hx01
                    have HX1 := Lib.hid hx1
                    have HX2 := Lib.hid hx2
                    have HX3m := Lib.hid hx3
                    have HGx := Lib.hid (hx3.row HG.out (by simp))
                    have hlt1 := blk_lt HS.out.row
                    clear hx1 hx2 hx3
                    go_wp2_with (first | (go_at_call 28; refine HPl2.out.mono ?_; rintro e w9 ⟨rfl, rfl⟩) | (at_builtin; refine wpList_appS _ rfl _ _ 22 22 rfl 9 Tryd.underlying22 infoS (w.heap.size + 1) _ nl R.lines HX2.out (Nat.le_of_lt (blk_lt HX1.out)) rfl _ _ [Ln.drop 4] rfl (Src.ofTexts (by rw [← HTn.out]; exact new_text _ _ (by simp) T) Tryd.underlying22 1 1 rfl) (by have := HlR.out; have := HRl.out; have := HP.out; omega) ?_))
                    intro a4 n4 c4 W4 ho4 hn4 hm4
                    have hr4 := hm4.row HX1.out (own_apart HX2.out (by decide) HX1.out)
                    have hg4 := hm4.row HGx.out (own_apart HX2.out (by decide) HGx.out)
                    have HN4 := Lib.hid (show n4 = (R.lines ++ [Ln.drop 4]).length by rw [List.length_append, HlR.out]; exact hn4)
                    have HNx := Lib.hid (RdS.push (R := ⟨(n : Int), [], R.lines ++ [Ln.drop 4]⟩) (e0 := ByteArray.empty) (s0 := sa) (n0 := nl) (k0 := sc) hr4 ho4 rfl (by
                        intro l hl
                        rcases List.mem_append.1 hl with h | h
                        · exact HS.out.byt l h
                        · simp at h; subst h; rw [← HTn.out]; exact nums_bytes _) ((HS.out.mod.trans' HX3m.out (by intro x hx; simp at hx; exact Or.inr (by omega))).trans' hm4 (by
                        intro x hx
                        exact Or.inr (by have := (owns_lt HX2.out (k := x) (by simpa using hx)).1; omega))) (by omega))
                    have HG4 := Lib.hid (show (W4.setCell ⟨w.heap.size + 1, 2, none⟩ (.slice a4 n4 c4)).heap[w.heap.size]? = some (.cells (gotC 0 ByteArray.empty none 0 0 0 0) 44 (0, 0)) by rw [heap_setCell_other _ _ _ _ (by simp)]; exact hg4)
                    clear k0 k1 k2 k3 k4 z0 z1 z2 z3 z4 j0 j1 j2 y0 y1 y2
                    have k0 := blk_cell hg4 0
                    have k1 := blk_cell hg4 1
                    have k2 := blk_cell hg4 2
                    have k3 := blk_cell hg4 3
                    have k4 := blk_cell hg4 4
                    have z0 := blk_free hg4 0
                    have z1 := blk_free hg4 1
                    have z2 := blk_free hg4 2
                    have z3 := blk_free hg4 3
                    have z4 := blk_free hg4 4
                    have j0 := blk_cell hr4 0
                    have j1 := blk_cell hr4 1
                    have j2 := blk_cell hr4 2
                    have y0 := blk_free hr4 0
                    have y1 := blk_free hr4 1
                    have y2 := blk_free hr4 2
                    have hcast : (i : Int) + 2 - (f : Int) = ((k + (m + 2) : Nat) : Int) := by have := HMe.out; have := HP.out; omega
                    have hcast2 : (i : Int) + 2 = ((f + (k + (m + 2)) : Nat) : Int) := by have := HMe.out; have := HP.out; omega
                    have HC1 := Lib.hid hcast
                    have HC2 := Lib.hid hcast2
                    clear hr4 hg4 ho4 hm4 hn4 hcast hcast2
                    have HRs := Lib.hid (show readR false .zero ((nums s).drop f) 0 = (⟨(n : Int), [], R.lines ++ [Ln.drop 4]⟩, k + (m + 2), 0) by rw [HGo2.out, HSm.out]; rfl)
                    go_wp2_with fail
                    refine bodyPost_ret (v := .agg (gotC n ByteArray.empty a4 n4 c4 ((i : Int) + 2 - (f : Int)) 0)) (results_cell_row rfl _ _ w.heap.size 44 _ (0, 0) _ rfl (set5_row HG4.out) Tryd.underlying44 rfl got_size) rfl ?_
                    unfold RGotP
                    rw [HRs.out, HC1.out]
                    exact ⟨_, rfl, ⟨_, _, _, _, rfl, rfl, HN4.out, HNx.out.txt.set5 HG4.out _ _ _ _ _⟩, HNx.out.mod.trans' (set5_mod _ w.heap.size _ _ _ _ _) (by intro x hx; simp at hx; exact Or.inr (by omega))⟩
                  · have hz1 : (0 : Int) < (nl : Int) := by omega
                    have hcd : R.code = (n : Int) ∧ R.enh = [] := by
                      have h := hsm
                      unfold sameB at h
                      rw [decide_eq_false (p := R.lines.length = 0) (by rw [HlR.out]; exact hz)] at h
                      simpa using h
                    have q0 : (R.code != (n : Int)) = false := by rw [bne_eq_false_iff_eq]; exact hcd.1
                    have hee : en.toList = [] := toList_nil.2 (nums_nil.1 (by rw [HS.out.enh, hcd.2]))
                    have q1 : (en.toList == ([] : List UInt8)) = true := by rw [hee]; rfl
                    clear hz hcd hsm
                    have hx01 := HS.out.set01 (by omega) (n : Int) ByteArray.empty T
                    obtain ⟨hx1, hx2, hx3⟩ := hx01
                    have HX1 := Lib.hid hx1
                    have HX2 := Lib.hid hx2
                    have HX3m := Lib.hid hx3
                    have HGx := Lib.hid (hx3.row HG.out (by simp))
                    have hlt1 := blk_lt HS.out.row
                    clear hx1 hx2 hx3
                    go_wp2_with (first | (go_at_call 28; refine HPl2.out.mono ?_; rintro e w9 ⟨rfl, rfl⟩) | (at_builtin; refine wpList_appS _ rfl _ _ 22 22 rfl 9 Tryd.underlying22 infoS (w.heap.size + 1) _ nl R.lines HX2.out (Nat.le_of_lt (blk_lt HX1.out)) rfl _ _ [Ln.drop 4] rfl (Src.ofTexts (by rw [← HTn.out]; exact new_text _ _ (by simp) T) Tryd.underlying22 1 1 rfl) (by have := HlR.out; have := HRl.out; have := HP.out; omega) ?_))
                    intro a4 n4 c4 W4 ho4 hn4 hm4
                    have hr4 := hm4.row HX1.out (own_apart HX2.out (by decide) HX1.out)
                    have hg4 := hm4.row HGx.out (own_apart HX2.out (by decide) HGx.out)
                    have HN4 := Lib.hid (show n4 = (R.lines ++ [Ln.drop 4]).length by rw [List.length_append, HlR.out]; exact hn4)
                    have HNx := Lib.hid (RdS.push (R := ⟨(n : Int), [], R.lines ++ [Ln.drop 4]⟩) (e0 := ByteArray.empty) (s0 := sa) (n0 := nl) (k0 := sc) hr4 ho4 rfl (by
                        intro l hl
                        rcases List.mem_append.1 hl with h | h
                        · exact HS.out.byt l h
                        · simp at h; subst h; rw [← HTn.out]; exact nums_bytes _) ((HS.out.mod.trans' HX3m.out (by intro x hx; simp at hx; exact Or.inr (by omega))).trans' hm4 (by
                        intro x hx
                        exact Or.inr (by have := (owns_lt HX2.out (k := x) (by simpa using hx)).1; omega))) (by omega))
                    have HG4 := Lib.hid (show (W4.setCell ⟨w.heap.size + 1, 2, none⟩ (.slice a4 n4 c4)).heap[w.heap.size]? = some (.cells (gotC 0 ByteArray.empty none 0 0 0 0) 44 (0, 0)) by rw [heap_setCell_other _ _ _ _ (by simp)]; exact hg4)
                    clear k0 k1 k2 k3 k4 z0 z1 z2 z3 z4 j0 j1 j2 y0 y1 y2
                    have k0 := blk_cell hg4 0
                    have k1 := blk_cell hg4 1
                    have k2 := blk_cell hg4 2
                    have k3 := blk_cell hg4 3
                    have k4 := blk_cell hg4 4
                    have z0 := blk_free hg4 0
                    have z1 := blk_free hg4 1
                    have z2 := blk_free hg4 2
                    have z3 := blk_free hg4 3
                    have z4 := blk_free hg4 4
                    have j0 := blk_cell hr4 0
                    have j1 := blk_cell hr4 1
                    have j2 := blk_cell hr4 2
                    have y0 := blk_free hr4 0
                    have y1 := blk_free hr4 1
                    have y2 := blk_free hr4 2
                    have hcast : (i : Int) + 2 - (f : Int) = ((k + (m + 2) : Nat) : Int) := by have := HMe.out; have := HP.out; omega
                    have hcast2 : (i : Int) + 2 = ((f + (k + (m + 2)) : Nat) : Int) := by have := HMe.out; have := HP.out; omega
                    have HC1 := Lib.hid hcast
                    have HC2 := Lib.hid hcast2
                    clear hr4 hg4 ho4 hm4 hn4 hcast hcast2
                    have HRs := Lib.hid (show readR false .zero ((nums s).drop f) 0 = (⟨(n : Int), [], R.lines ++ [Ln.drop 4]⟩, k + (m + 2), 0) by rw [HGo2.out, HSm.out]; rfl)
                    go_wp2_with fail
                    refine bodyPost_ret (v := .agg (gotC n ByteArray.empty a4 n4 c4 ((i : Int) + 2 - (f : Int)) 0)) (results_cell_row rfl _ _ w.heap.size 44 _ (0, 0) _ rfl (set5_row HG4.out) Tryd.underlying44 rfl got_size) rfl ?_
                    unfold RGotP
                    rw [HRs.out, HC1.out]
                    exact ⟨_, rfl, ⟨_, _, _, _, rfl, rfl, HN4.out, HNx.out.txt.set5 HG4.out _ _ _ _ _⟩, HNx.out.mod.trans' (set5_mod _ w.heap.size _ _ _ _ _) (by intro x hx; simp at hx; exact Or.inr (by omega))⟩
            · have HSg := Lib.hid (show Ln.getD 3 0 = 45 ∨ Ln.getD 3 0 = 32 by rw [← HX3.out]; simp)
              go_wp2_with fail
              go_loopg [11, 12] 3 (fun g c v wx => wr = wx ∧ ∃ j n : Nat, c = .int .i64 n ∧ v = .int .i64 j ∧ j ≤ 3 ∧ g = 3 - j ∧ n ≤ 999 ∧ n < 10 ^ j ∧ n = valD (Ln.take j) ∧ (∀ i, i < j → isD (Ln.getD i 0) = true))
              case atStart => exact ⟨rfl, 0, 0, rfl, rfl, by omega, rfl, by omega, by simp, by simp [valD], fun i hi => by omega⟩
              case round =>
                obtain ⟨rfl, j, n, rfl, rfl, hj3, rfl, hn9, hnj, hnv, hall⟩ := hrel
                have HNJ := Lib.hid hnj
                have HNV := Lib.hid hnv
                have HAl := Lib.hid hall
                clear hnj hnv hall
                by_cases hj : j < 3
                · have hjP : j < P.size := by omega
                  have hxj := str_at P j hjP
                  rw [HPn.out] at hxj
                  generalize hbj : ((P[j].toNat : Nat) : Int) = bj at *
                  have HXj := Lib.hid hxj
                  clear hxj
                  by_cases h48 : bj < 48
                  · have HRs := Lib.hid (show readR false .zero ((nums s).drop f) 0 = (.zero, 0, 3) by rw [HGo.out, one_nodig HP4.out hj (by rw [← HXj.out, Bool.eq_false_iff]; intro h; rw [isD_iff] at h; omega)]; rfl)
                    go_wp2_with fail
                    refine bodyPost_ret (v := .agg (gotC 0 ByteArray.empty none 0 0 0 3)) (results_cell_row rfl _ _ w.heap.size 44 _ (0, 0) _ rfl (set5_row HG.out) Tryd.underlying44 rfl got_size) rfl ?_
                    unfold RGotP
                    rw [HRs.out]
                    exact ⟨_, rfl, GotAt.no _ _, HS.out.mod.trans' (set5_mod _ w.heap.size _ _ _ _ _) (by intro x hx; simp at hx; exact Or.inr (by omega))⟩
                  have h48' : 48 ≤ bj := by omega
                  clear h48
                  by_cases h57 : 57 < bj
                  · have HRs := Lib.hid (show readR false .zero ((nums s).drop f) 0 = (.zero, 0, 3) by rw [HGo.out, one_nodig HP4.out hj (by rw [← HXj.out, Bool.eq_false_iff]; intro h; rw [isD_iff] at h; omega)]; rfl)
                    go_wp2_with fail
                    refine bodyPost_ret (v := .agg (gotC 0 ByteArray.empty none 0 0 0 3)) (results_cell_row rfl _ _ w.heap.size 44 _ (0, 0) _ rfl (set5_row HG.out) Tryd.underlying44 rfl got_size) rfl ?_
                    unfold RGotP
                    rw [HRs.out]
                    exact ⟨_, rfl, GotAt.no _ _, HS.out.mod.trans' (set5_mod _ w.heap.size _ _ _ _ _) (by intro x hx; simp at hx; exact Or.inr (by omega))⟩
                  have h57' : bj ≤ 57 := by omega
                  clear h57
                  have HD1 := Lib.hid (show isD (Ln.getD j 0) = true by rw [← HXj.out, isD_iff]; exact ⟨h48', h57'⟩)
                  have HALL := Lib.hid (show ∀ i, i < j + 1 → isD (Ln.getD i 0) = true by
                    intro i hi
                    rcases Nat.lt_or_ge i j with h | h
                    · exact HAl.out i h
                    · rw [show i = j by omega]; exact HD1.out)
                  have hn1 : 10 * n + 9 ≤ 999 := n999 hj HNJ.out
                  have HN1 := Lib.hid (show 10 * n + (bj - 48).toNat < 10 ^ (j + 1) by
                    have h := HNJ.out
                    rw [Nat.pow_succ]
                    omega)
                  have HNV2 := Lib.hid (show 10 * n + (bj - 48).toNat = valD (Ln.take (j + 1)) by rw [valD_take Ln j (by have := HP4.out; omega), ← HNV.out, ← HXj.out])
                  go_wp2_with fail
                  go_roundg (3 - (j + 1))
                  case measure => omega
                  case rel => exact ⟨rfl, j + 1, 10 * n + (bj - 48).toNat, by go_num, by go_num, by omega, rfl, by omega, HN1.out, HNV2.out, HALL.out⟩
                · have hjI : ¬ ((j : Int) < 3) := by omega
                  have hj3' : j = 3 := by omega
                  have hnv := HNV.out
                  have hal := HAl.out
                  rw [hj3'] at hnv hal
                  have HV := Lib.hid hnv
                  have HD3 := Lib.hid hal
                  clear hnv hal hj HNV HAl HNJ hj3'
                  obtain ⟨T, hTx⟩ : ∃ T, P.extract 4 P.size = T := ⟨_, rfl⟩
                  have hf4 : ∀ W, (Instr.slice 9 (.string P) (some (.int .i64 4)) none none).run Tryd.prog W = .ok (.string T) W := slice_from P 4 (by omega) T hTx
                  have hTn : nums T = Ln.drop 4 := by rw [← hTx, nums_extract, HPn.out, List.take_of_length_le (by rw [List.length_drop, HPs.out]; omega)]
                  have HTn := Lib.hid hTn
                  have hTs : T.size ≤ 100000 := by rw [← nums_length, hTn, List.length_drop, HPs.out]; omega
                  clear hTx hTn
                  by_cases hc1 : n < 200
                  · have hc1' : (n : Int) < 200 := by omega
                    have HRs := Lib.hid (show readR false .zero ((nums s).drop f) 0 = (.zero, 0, 3) by rw [HGo.out, one_code (by rw [← HV.out]; simp [codeB]; omega)]; rfl)
                    go_wp2_with fail
                    refine bodyPost_ret (v := .agg (gotC 0 ByteArray.empty none 0 0 0 3)) (results_cell_row rfl _ _ w.heap.size 44 _ (0, 0) _ rfl (set5_row HG.out) Tryd.underlying44 rfl got_size) rfl ?_
                    unfold RGotP
                    rw [HRs.out]
                    exact ⟨_, rfl, GotAt.no _ _, HS.out.mod.trans' (set5_mod _ w.heap.size _ _ _ _ _) (by intro x hx; simp at hx; exact Or.inr (by omega))⟩
                  have hc1' : ¬ ((n : Int) < 200) := by omega
                  by_cases hc2 : 599 < n
                  · have hc2' : (599 : Int) < (n : Int) := by omega
                    have HRs := Lib.hid (show readR false .zero ((nums s).drop f) 0 = (.zero, 0, 3) by rw [HGo.out, one_code (by rw [← HV.out]; simp [codeB]; omega)]; rfl)
                    go_wp2_with fail
                    refine bodyPost_ret (v := .agg (gotC 0 ByteArray.empty none 0 0 0 3)) (results_cell_row rfl _ _ w.heap.size 44 _ (0, 0) _ rfl (set5_row HG.out) Tryd.underlying44 rfl got_size) rfl ?_
                    unfold RGotP
                    rw [HRs.out]
                    exact ⟨_, rfl, GotAt.no _ _, HS.out.mod.trans' (set5_mod _ w.heap.size _ _ _ _ _) (by intro x hx; simp at hx; exact Or.inr (by omega))⟩
                  have hc2' : ¬ ((599 : Int) < (n : Int)) := by omega
                  have HCb := Lib.hid (show codeB (valD (Ln.take 3)) = true by rw [← HV.out]; simp [codeB]; omega)
                  clear hc1 hc2
                  have HPl2 := Lib.hid (rplain_any T wr hTs)
                  cases hpl : plainB (nums T)
                  · rw [hpl] at HPl2
                    have HRs := Lib.hid (show readR false .zero ((nums s).drop f) 0 = (.zero, 0, 3) by rw [HGo.out, one_unplain (by rw [← HTn.out]; exact hpl)]; rfl)
                    go_wp2_with (go_at_call 28; refine HPl2.out.mono ?_; rintro e w9 ⟨rfl, rfl⟩)
                    refine bodyPost_ret (v := .agg (gotC 0 ByteArray.empty none 0 0 0 3)) (results_cell_row rfl _ _ w.heap.size 44 _ (0, 0) _ rfl (set5_row HG.out) Tryd.underlying44 rfl got_size) rfl ?_
                    unfold RGotP
                    rw [HRs.out]
                    exact ⟨_, rfl, GotAt.no _ _, HS.out.mod.trans' (set5_mod _ w.heap.size _ _ _ _ _) (by intro x hx; simp at hx; exact Or.inr (by omega))⟩
                  rw [hpl] at HPl2
                  have HOk := Lib.hid (show oneB false Ln = true from one_yes HP4.out HSg.out HD3.out HCb.out (by rw [← HTn.out]; exact hpl))
                  have HOv := Lib.hid (show oneV false Ln = ⟨n, [], Ln.drop 4, true⟩ by unfold oneV; rw [← HV.out, ← HX3.out]; rfl)
                  clear hpl
                  have hgo2 := HGo.out
                  rw [HOk.out, Bool.true_and, HOv.out] at hgo2
                  have HGo2 := Lib.hid hgo2
                  clear hgo2
                  cases hsm : sameB R ⟨n, [], Ln.drop 4, true⟩
                  · have HRs := Lib.hid (show readR false .zero ((nums s).drop f) 0 = (.zero, 0, 3) by rw [HGo2.out, hsm]; rfl)
                    have hnl0 : 0 < nl := by
                      rcases Nat.eq_zero_or_pos nl with h | h
                      · exfalso
                        unfold sameB at hsm
                        rw [decide_eq_true (p := R.lines.length = 0) (by rw [HlR.out]; exact h)] at hsm
                        cases hsm
                      · exact h
                    have hnlI : (0 : Int) < (nl : Int) := by omega
                    by_cases hcc : R.code = n
                    · have q0 : (R.code != (n : Int)) = false := by rw [bne_eq_false_iff_eq]; exact hcc
                      have q1 : (en.toList == ([] : List UInt8)) = false := by
                        rw [beq_eq_false_iff_ne]
                        intro hee
                        unfold sameB at hsm
                        rw [decide_eq_true (p := R.code = (n : Int)) hcc, decide_eq_true (p := R.enh = []) (by rw [← HS.out.enh]; exact nums_nil.2 (toList_nil.1 hee))] at hsm
                        simp at hsm
                      have q2 : en.toList ≠ [] := by rw [beq_eq_false_iff_ne] at q1; exact q1
                      clear hsm hcc
                      go_wp2_with (go_at_call 28; refine HPl2.out.mono ?_; rintro e w9 ⟨rfl, rfl⟩)
                      refine bodyPost_ret (v := .agg (gotC 0 ByteArray.empty none 0 0 0 3)) (results_cell_row rfl _ _ w.heap.size 44 _ (0, 0) _ rfl (set5_row HG.out) Tryd.underlying44 rfl got_size) rfl ?_
                      unfold RGotP
                      rw [HRs.out]
                      exact ⟨_, rfl, GotAt.no _ _, HS.out.mod.trans' (set5_mod _ w.heap.size _ _ _ _ _) (by intro x hx; simp at hx; exact Or.inr (by omega))⟩
                    · have q0 : (R.code != (n : Int)) = true := by rw [bne_iff_ne]; exact hcc
                      clear hsm hcc
                      go_wp2_with (go_at_call 28; refine HPl2.out.mono ?_; rintro e w9 ⟨rfl, rfl⟩)
                      refine bodyPost_ret (v := .agg (gotC 0 ByteArray.empty none 0 0 0 3)) (results_cell_row rfl _ _ w.heap.size 44 _ (0, 0) _ rfl (set5_row HG.out) Tryd.underlying44 rfl got_size) rfl ?_
                      unfold RGotP
                      rw [HRs.out]
                      exact ⟨_, rfl, GotAt.no _ _, HS.out.mod.trans' (set5_mod _ w.heap.size _ _ _ _ _) (by intro x hx; simp at hx; exact Or.inr (by omega))⟩
                  have HSm := Lib.hid hsm
                  by_cases hz : nl = 0
                  · have hz0 := size_zero hz
                    clear hz hsm
                    have hx01 := HS.out.set01 (by omega) (n : Int) ByteArray.empty T
                    obtain ⟨hx1, hx2, hx3⟩ := hx01
                    have HX1 := Lib.hid hx1
                    have HX2 := Lib.hid hx2
                    have HX3m := Lib.hid hx3
                    have HGx := Lib.hid (hx3.row HG.out (by simp))
                    have hlt1 := blk_lt HS.out.row
                    clear hx1 hx2 hx3
                    go_wp2_with (first | (go_at_call 28; refine HPl2.out.mono ?_; rintro e w9 ⟨rfl, rfl⟩) | (at_builtin; refine wpList_appS _ rfl _ _ 22 22 rfl 9 Tryd.underlying22 infoS (w.heap.size + 1) _ nl R.lines HX2.out (Nat.le_of_lt (blk_lt HX1.out)) rfl _ _ [Ln.drop 4] rfl (Src.ofTexts (by rw [← HTn.out]; exact new_text _ _ (by simp) T) Tryd.underlying22 1 1 rfl) (by have := HlR.out; have := HRl.out; have := HP.out; omega) ?_))
                    intro a4 n4 c4 W4 ho4 hn4 hm4
                    have hr4 := hm4.row HX1.out (own_apart HX2.out (by decide) HX1.out)
                    have hg4 := hm4.row HGx.out (own_apart HX2.out (by decide) HGx.out)
                    have HN4 := Lib.hid (show n4 = (R.lines ++ [Ln.drop 4]).length by rw [List.length_append, HlR.out]; exact hn4)
                    have HNx := Lib.hid (RdS.push (R := ⟨(n : Int), [], R.lines ++ [Ln.drop 4]⟩) (e0 := ByteArray.empty) (s0 := sa) (n0 := nl) (k0 := sc) hr4 ho4 rfl (by
                        intro l hl
                        rcases List.mem_append.1 hl with h | h
                        · exact HS.out.byt l h
                        · simp at h; subst h; rw [← HTn.out]; exact nums_bytes _) ((HS.out.mod.trans' HX3m.out (by intro x hx; simp at hx; exact Or.inr (by omega))).trans' hm4 (by
                        intro x hx
                        exact Or.inr (by have := (owns_lt HX2.out (k := x) (by simpa using hx)).1; omega))) (by omega))
                    have HG4 := Lib.hid (show (W4.setCell ⟨w.heap.size + 1, 2, none⟩ (.slice a4 n4 c4)).heap[w.heap.size]? = some (.cells (gotC 0 ByteArray.empty none 0 0 0 0) 44 (0, 0)) by rw [heap_setCell_other _ _ _ _ (by simp)]; exact hg4)
                    clear k0 k1 k2 k3 k4 z0 z1 z2 z3 z4 j0 j1 j2 y0 y1 y2
                    have k0 := blk_cell hg4 0
                    have k1 := blk_cell hg4 1
                    have k2 := blk_cell hg4 2
                    have k3 := blk_cell hg4 3
                    have k4 := blk_cell hg4 4
                    have z0 := blk_free hg4 0
                    have z1 := blk_free hg4 1
                    have z2 := blk_free hg4 2
                    have z3 := blk_free hg4 3
                    have z4 := blk_free hg4 4
                    have j0 := blk_cell hr4 0
                    have j1 := blk_cell hr4 1
                    have j2 := blk_cell hr4 2
                    have y0 := blk_free hr4 0
                    have y1 := blk_free hr4 1
                    have y2 := blk_free hr4 2
                    have hcast : (i : Int) + 2 - (f : Int) = ((k + (m + 2) : Nat) : Int) := by have := HMe.out; have := HP.out; omega
                    have hcast2 : (i : Int) + 2 = ((f + (k + (m + 2)) : Nat) : Int) := by have := HMe.out; have := HP.out; omega
                    have HC1 := Lib.hid hcast
                    have HC2 := Lib.hid hcast2
                    clear hr4 hg4 ho4 hm4 hn4 hcast hcast2
                    have HRs := Lib.hid (show readR false .zero ((nums s).drop f) 0 = readR false ⟨(n : Int), [], R.lines ++ [Ln.drop 4]⟩ (Lp.drop (m + 2)) (k + (m + 2)) by rw [HGo2.out, HSm.out]; rfl)
                    go_wp2_with fail
                    go_roundg (s.size - f - (k + (m + 2)))
                    case measure => have := HMe.out; have := HP.out; omega
                    case rel =>
                      refine ⟨k + (m + 2), ⟨(n : Int), [], R.lines ++ [Ln.drop 4]⟩, ByteArray.empty, a4, n4, c4, by rw [HC2.out], by have := HMe.out; have := HP.out; omega, rfl, HNx.out, HG4.out, ?_, ?_⟩
                      · rw [HRs.out, ← HLp.out, List.drop_drop, List.drop_drop, ← HP.out, Nat.add_assoc]
                      · have := HRl.out
                        simp only [List.length_append, List.length_cons, List.length_nil]
                        omega
                  · have hz1 : (0 : Int) < (nl : Int) := by omega
                    have hcd : R.code = (n : Int) ∧ R.enh = [] := by
                      have h := hsm
                      unfold sameB at h
                      rw [decide_eq_false (p := R.lines.length = 0) (by rw [HlR.out]; exact hz)] at h
                      simpa using h
                    have q0 : (R.code != (n : Int)) = false := by rw [bne_eq_false_iff_eq]; exact hcd.1
                    have hee : en.toList = [] := toList_nil.2 (nums_nil.1 (by rw [HS.out.enh, hcd.2]))
                    have q1 : (en.toList == ([] : List UInt8)) = true := by rw [hee]; rfl
                    clear hz hcd hsm
                    have hx01 := HS.out.set01 (by omega) (n : Int) ByteArray.empty T
                    obtain ⟨hx1, hx2, hx3⟩ := hx01
                    have HX1 := Lib.hid hx1
                    have HX2 := Lib.hid hx2
                    have HX3m := Lib.hid hx3
                    have HGx := Lib.hid (hx3.row HG.out (by simp))
                    have hlt1 := blk_lt HS.out.row
                    clear hx1 hx2 hx3
                    go_wp2_with (first | (go_at_call 28; refine HPl2.out.mono ?_; rintro e w9 ⟨rfl, rfl⟩) | (at_builtin; refine wpList_appS _ rfl _ _ 22 22 rfl 9 Tryd.underlying22 infoS (w.heap.size + 1) _ nl R.lines HX2.out (Nat.le_of_lt (blk_lt HX1.out)) rfl _ _ [Ln.drop 4] rfl (Src.ofTexts (by rw [← HTn.out]; exact new_text _ _ (by simp) T) Tryd.underlying22 1 1 rfl) (by have := HlR.out; have := HRl.out; have := HP.out; omega) ?_))
                    intro a4 n4 c4 W4 ho4 hn4 hm4
                    have hr4 := hm4.row HX1.out (own_apart HX2.out (by decide) HX1.out)
                    have hg4 := hm4.row HGx.out (own_apart HX2.out (by decide) HGx.out)
                    have HN4 := Lib.hid (show n4 = (R.lines ++ [Ln.drop 4]).length by rw [List.length_append, HlR.out]; exact hn4)
                    have HNx := Lib.hid (RdS.push (R := ⟨(n : Int), [], R.lines ++ [Ln.drop 4]⟩) (e0 := ByteArray.empty) (s0 := sa) (n0 := nl) (k0 := sc) hr4 ho4 rfl (by
                        intro l hl
                        rcases List.mem_append.1 hl with h | h
                        · exact HS.out.byt l h
                        · simp at h; subst h; rw [← HTn.out]; exact nums_bytes _) ((HS.out.mod.trans' HX3m.out (by intro x hx; simp at hx; exact Or.inr (by omega))).trans' hm4 (by
                        intro x hx
                        exact Or.inr (by have := (owns_lt HX2.out (k := x) (by simpa using hx)).1; omega))) (by omega))
                    have HG4 := Lib.hid (show (W4.setCell ⟨w.heap.size + 1, 2, none⟩ (.slice a4 n4 c4)).heap[w.heap.size]? = some (.cells (gotC 0 ByteArray.empty none 0 0 0 0) 44 (0, 0)) by rw [heap_setCell_other _ _ _ _ (by simp)]; exact hg4)
                    clear k0 k1 k2 k3 k4 z0 z1 z2 z3 z4 j0 j1 j2 y0 y1 y2
                    have k0 := blk_cell hg4 0
                    have k1 := blk_cell hg4 1
                    have k2 := blk_cell hg4 2
                    have k3 := blk_cell hg4 3
                    have k4 := blk_cell hg4 4
                    have z0 := blk_free hg4 0
                    have z1 := blk_free hg4 1
                    have z2 := blk_free hg4 2
                    have z3 := blk_free hg4 3
                    have z4 := blk_free hg4 4
                    have j0 := blk_cell hr4 0
                    have j1 := blk_cell hr4 1
                    have j2 := blk_cell hr4 2
                    have y0 := blk_free hr4 0
                    have y1 := blk_free hr4 1
                    have y2 := blk_free hr4 2
                    have hcast : (i : Int) + 2 - (f : Int) = ((k + (m + 2) : Nat) : Int) := by have := HMe.out; have := HP.out; omega
                    have hcast2 : (i : Int) + 2 = ((f + (k + (m + 2)) : Nat) : Int) := by have := HMe.out; have := HP.out; omega
                    have HC1 := Lib.hid hcast
                    have HC2 := Lib.hid hcast2
                    clear hr4 hg4 ho4 hm4 hn4 hcast hcast2
                    have HRs := Lib.hid (show readR false .zero ((nums s).drop f) 0 = readR false ⟨(n : Int), [], R.lines ++ [Ln.drop 4]⟩ (Lp.drop (m + 2)) (k + (m + 2)) by rw [HGo2.out, HSm.out]; rfl)
                    go_wp2_with fail
                    go_roundg (s.size - f - (k + (m + 2)))
                    case measure => have := HMe.out; have := HP.out; omega
                    case rel =>
                      refine ⟨k + (m + 2), ⟨(n : Int), [], R.lines ++ [Ln.drop 4]⟩, ByteArray.empty, a4, n4, c4, by rw [HC2.out], by have := HMe.out; have := HP.out; omega, rfl, HNx.out, HG4.out, ?_, ?_⟩
                      · rw [HRs.out, ← HLp.out, List.drop_drop, List.drop_drop, ← HP.out, Nat.add_assoc]
                      · have := HRl.out
                        simp only [List.length_append, List.length_cons, List.length_nil]
                        omega
          · have e10 : (b2 == 10) = false := by simp [h10]
            have HH := Lib.hid (endAt_miss (l := nums s) (i := i) (by rw [HL.out]; omega) (by rw [← HX.out, ← HY.out]; exact fun h => h10 h.2))
            clear h13 h10
            go_wp2_with fail
            go_roundg (s.size - (i + 1))
            case measure => omega
            case rel => exact ⟨rfl, i + 1, by go_num, by omega, by omega, rfl, by rw [HH.out, HEa.out]⟩
        · have e13 : (b1 == 13) = false := by simp [h13]
          have HH := Lib.hid (endAt_miss (l := nums s) (i := i) (by rw [HL.out]; omega) (by rw [← HX.out]; exact fun h => h13 h.1))
          clear h13
          go_wp2_with fail
          go_roundg (s.size - (i + 1))
          case measure => omega
          case rel => exact ⟨rfl, i + 1, by go_num, by omega, by omega, rfl, by rw [HH.out, HEa.out]⟩
      · have hge : ¬ ((i : Int) + 1 < (s.size : Int)) := by omega
        have hge2 : (s.size : Int) ≤ (i : Int) + 1 := by omega
        have h0 := endAt_none (l := nums s) (i := i) (by rw [HL.out]; omega)
        rw [HEa.out] at h0
        have h0' := endP_not_at h0
        rw [HLp.out] at h0'
        have HRs := Lib.hid (show readR false .zero ((nums s).drop f) 0 = (.zero, 0, 2) by rw [← HRr.out]; rw [HLp.out]; exact readR_short h0')
        clear h0 h0' hlt
        go_wp2_with fail
        refine bodyPost_ret (v := .agg (gotC 0 ByteArray.empty none 0 0 0 2)) (results_cell_row rfl _ _ w.heap.size 44 _ (0, 0) _ rfl (set5_row HG.out) Tryd.underlying44 rfl got_size) rfl ?_
        unfold RGotP
        rw [HRs.out]
        exact ⟨_, rfl, GotAt.no _ _, HS.out.mod.trans' (set5_mod _ w.heap.size _ _ _ _ _) (by intro x hx; simp at hx; exact Or.inr (by omega))⟩
end Go.Proofs.YtdedolbaldfmbaaDoor
