import Derived.Test.YtbhdlclaooohfaaGreatDoorFrD
import Derived.Laws.ResultCell
import Derived.Laws.Rows
/- At. -/
namespace Go.Proofs.YtbhdlclaooohfaaGreatDoor
open Go.ChangeShapes Go.WideShapes Go.ChangeAt Go.RowKit
set_option linter.unusedVariables false
set_option linter.unusedSimpArgs false

/-- a frame's cells -/
def frCs (f : FV) (pa : Option Addr) (pc : Nat) : Array Value := #[.int .i64 f.at_, .int .i64 f.len, .int .i64 f.kind, .slice pa f.pay.length pc]
abbrev zeroCs : Array Value := #[.int .i64 0, .int .i64 0, .int .i64 0, .slice none 0 0]
theorem frCs_zero : frCs FV.zero none 0 = zeroCs := rfl
/-- bytes in a row of bytes that the call made -/
def Pay (B : Nat) (w : World) (pa : Option Addr) (p : List Int) : Prop :=
  Cells8 w pa p ∧ (p = [] ∨ ∃ x cur, pa = some x ∧ B ≤ x.block ∧ w.heap[x.block]? = some (.cells cur 5 (0, 0)))
theorem Pay.mod {B : Nat} {F : List Nat} {w w' : World} {pa : Option Addr} {p : List Int} (h : Pay B w pa p) (hm : Mod F w w') (hF : ∀ x, B ≤ x → x ∈ F → ¬ ∃ cur, w.heap[x]? = some (.cells cur 5 (0, 0))) : Pay B w' pa p := by
  rcases h with ⟨h1, h2⟩
  by_cases hp : p = []
  · subst hp; exact ⟨Cells8.nil _ _, .inl rfl⟩
  · rcases h2 with h2 | ⟨x, cur, rfl, hB, hx⟩
    · exact absurd h2 hp
    · have hn : x.block ∉ F := fun hF1 => hF _ hB hF1 ⟨cur, hx⟩
      exact ⟨h1.mod hm (by intro y hy; simp at hy; subst hy; exact hn), .inr ⟨x, cur, rfl, hB, hm.row hx hn⟩⟩
theorem Pay.low {B B' : Nat} {w : World} {pa : Option Addr} {p : List Int} (h : Pay B w pa p) (hB : B' ≤ B) : Pay B' w pa p := by
  rcases h with ⟨h1, h2 | ⟨x, cur, rfl, h3, hx⟩⟩
  · exact ⟨h1, .inl h2⟩
  · exact ⟨h1, .inr ⟨x, cur, rfl, by omega, hx⟩⟩
theorem owns_typed {w : World} {base : Nat} {e : TypeId} {size : Nat} {g n cap m : Nat} {xs : List Value} (h : w.ownsRow base e size (.slice (some ⟨g, 0, none⟩) n cap) m xs) : ∃ cur, w.heap[g]? = some (.cells cur e (0, 0)) := by
  rcases h.2 with ⟨hv, h1⟩ | ⟨g', c, cur, hv, hb, hh, _⟩
  · cases hv
  · simp at hv
    obtain ⟨rfl, _⟩ := hv
    exact ⟨cur, hh⟩
def AtP (l : List Int) (at_ : Int) (w : World) (e : Ending) (w' : World) : Prop :=
  ∃ pa pc, e = .returned (.tuple #[.agg (frCs (atF l at_) pa pc), .int .i64 (atE l at_)]) ∧ Pay w.heap.size w' pa (atF l at_).pay ∧ (atF l at_).pay.length ≤ pc ∧ Below w.heap.size w w'
theorem AtP.err {l : List Int} {at_ er : Int} {w w' : World} (h : atE l at_ = er) (he : er ≠ 0) (hb : Below w.heap.size w w') : AtP l at_ w (.returned (.tuple #[.agg zeroCs, .int .i64 er])) w' := by
  subst h
  refine ⟨none, 0, ?_, ?_, ?_, hb⟩
  · rw [atF_err he]; rfl
  · rw [atF_err he]; exact ⟨Cells8.nil _ _, .inl rfl⟩
  · rw [atF_err he]; simp [FV.zero]
theorem AtP.ok {l : List Int} {i ln k : Int} {p : List Int} {pa : Option Addr} {m pc : Nat} {w w' : World} (hE : atE l i = 0) (hF : atF l i = ⟨i, ln, k, p⟩) (hc : Pay w.heap.size w' pa p) (hm : m = p.length) (hm2 : m ≤ pc) (hb : Below w.heap.size w w') :
    AtP l i w (.returned (.tuple #[.agg #[.int .i64 i, .int .i64 ln, .int .i64 k, .slice pa m pc], .int .i64 0])) w' := by
  subst hm
  refine ⟨pa, pc, ?_, ?_, ?_, hb⟩
  · rw [hE, hF]; rfl
  · rw [hF]; exact hc
  · rw [hF]; exact hm2
theorem info_frame : (Tryz.prog.info? 55).map (fun i => (i.zero, i.size, i.bytes)) = some (some (.agg zeroCs), 4, 48) := by kernel_rfl
theorem frame_size : (Tryz.prog.info? 55).map (·.size) = some 4 := by kernel_rfl
theorem res_frame {fn : Func} {p u : Tmp} (h : fn.results = #[.cell p 55, .tmp u]) (tmps : Array Value) (w : World) (g : Nat) (t : TypeId) (cs : Array Value) (fr : Nat × Nat)
    (hp : tmps.getD p undef = .pointer (some ⟨g, 0, none⟩)) (hg : w.heap[g]? = some (.cells cs t fr)) (hs : cs.size = 4) (v : Value) (hv : tmps.getD u undef = v) :
    (results fn tmps).run Tryz.prog w = .ok (.tuple #[.agg cs, v]) w :=
  res_cell_tmp_row h tmps w g t cs fr _ hp hg Tryz.underlying55 rfl (by rw [hs]; exact frame_size) v hv
/-- a frame is stored -/
theorem blk_store4 {w : World} {g : Nat} {cs : Array Value} {t : TypeId} (h : w.heap[g]? = some (.cells cs t (0, 0))) (h4 : cs.size = 4) (a b c d : Value) :
    ((((w.setCell ⟨g, 0, none⟩ a).setCell ⟨g, 1, none⟩ b).setCell ⟨g, 2, none⟩ c).setCell ⟨g, 3, none⟩ d).heap[g]? = some (.cells #[a, b, c, d] t (0, 0)) := by
  have h1 := blk_set (blk_set (blk_set (blk_set h 0 a) 1 b) 2 c) 3 d
  rw [h1]
  obtain ⟨l⟩ := cs
  match l, h4 with
  | [x0, x1, x2, x3], _ => rfl
theorem mod_store4 {w : World} {g : Nat} (a b c d : Value) : Mod [g] w ((((w.setCell ⟨g, 0, none⟩ a).setCell ⟨g, 1, none⟩ b).setCell ⟨g, 2, none⟩ c).setCell ⟨g, 3, none⟩ d) :=
  ((((Mod.refl [g] w).setCell (p := ⟨g, 0, none⟩) (Or.inl (by simp)) _).setCell (p := ⟨g, 1, none⟩) (Or.inl (by simp)) _).setCell (p := ⟨g, 2, none⟩) (Or.inl (by simp)) _).setCell (p := ⟨g, 3, none⟩) (Or.inl (by simp)) _

theorem getR_front {xs : List Int} (h : xs.length = 5) : getR xs 1 4 = val ((xs.drop 1).take 4) ∧ getB xs 1 4 = true := by
  have h1 : getB xs 1 4 = true := by simp [getB, sizedB, h]
  exact ⟨by simp [getR, h1, getV], h1⟩

theorem getR_mid {xs : List Int} (h : 9 ≤ xs.length) : getR xs 5 4 = val ((xs.drop 5).take 4) ∧ getB xs 5 4 = true := by
  have h1 : getB xs 5 4 = true := by simp [getB, sizedB]; omega
  exact ⟨by simp [getR, h1, getV], h1⟩
theorem owns_addr {w : World} {base : Nat} {e : TypeId} {size : Nat} {a : Option Addr} {n cap m : Nat} {xs : List Value} (h : w.ownsRow base e size (.slice a n cap) m xs) (hm : 0 < m) : ∃ g, a = some ⟨g, 0, none⟩ ∧ base ≤ g := by
  rcases h.2 with ⟨hv, h1⟩ | ⟨g, c, cur, hv, hb, _, h2, _⟩
  · omega
  · simp at hv
    exact ⟨g, hv.1, hb⟩
theorem owns_le {w : World} {base : Nat} {e : TypeId} {size : Nat} {a : Option Addr} {n cap m : Nat} {xs : List Value} (h : w.ownsRow base e size (.slice a n cap) m xs) : n ≤ cap := by
  rcases h.2 with ⟨hv, h1⟩ | ⟨g, c, cur, hv, _, _, h2, _⟩
  · simp at hv; omega
  · simp at hv; omega

set_option maxHeartbeats 2000000 in
theorem at_any (l : List Int) (a : Option Addr) (cap n : Nat) (at_ : Int) (w : World) (hc : Cells8 w a l) (hn : n = l.length) (hcap : l.length ≤ cap) (hl : l.length ≤ 9223372036854775807) (h0 : -9223372036854775808 ≤ at_) (h1 : at_ ≤ 9223372036854775807) (ht : Halves w) :
    Calls Tryz.prog 34 #[.slice a n cap, .int .i64 at_] w (AtP l at_ w) := by
  subst hn
  have HC := Lib.hid hc
  have HT := Lib.hid ht
  clear hc ht
  have HZ : Hid ((w.alloc (.cells zeroCs 55)).heap[w.heap.size]? = some (.cells zeroCs 55 (0, 0))) := Lib.hid (heap_alloc_new w _)
  have HB : Hid (Below w.heap.size w (w.alloc (.cells zeroCs 55))) := Lib.hid (((Mod.refl [] w).alloc _).toBelow (Nat.le_refl _) (by simp))
  have hg0 := blk_free HZ.out 0
  have hg1 := blk_free HZ.out 1
  have hg2 := blk_free HZ.out 2
  have hg3 := blk_free HZ.out 3
  by_cases hlo : at_ < 0
  · have HE := Lib.hid (show atE l at_ = 1 by unfold atE; rw [if_pos (Or.inl hlo)])
    go_enter Tryz.func34, Tryz.ntmps34
    go_wp2_with fail
    exact bodyPost_ret (v := .tuple #[.agg zeroCs, .int .i64 1]) (res_frame rfl _ _ w.heap.size _ zeroCs (0, 0) rfl HZ.out rfl _ rfl) rfl (AtP.err HE.out (by decide) HB.out)
  by_cases hhi : (l.length : Int) < at_
  · have HE := Lib.hid (show atE l at_ = 1 by unfold atE; rw [if_pos (Or.inr hhi)])
    go_enter Tryz.func34, Tryz.ntmps34
    go_wp2_with fail
    exact bodyPost_ret (v := .tuple #[.agg zeroCs, .int .i64 1]) (res_frame rfl _ _ w.heap.size _ zeroCs (0, 0) rfl HZ.out rfl _ rfl) rfl (AtP.err HE.out (by decide) HB.out)
  by_cases hend : at_ = l.length
  · have HE := Lib.hid (show atE l at_ = 2 by unfold atE; rw [if_neg (by omega), if_pos hend])
    have HEnd := Lib.hid hend
    have hb2 : (at_ == (l.length : Int)) = true := by simp [hend]
    clear hend
    go_enter Tryz.func34, Tryz.ntmps34
    go_wp2_with fail
    exact bodyPost_ret (v := .tuple #[.agg zeroCs, .int .i64 2]) (res_frame rfl _ _ w.heap.size _ zeroCs (0, 0) rfl HZ.out rfl _ rfl) rfl (AtP.err HE.out (by decide) HB.out)
  obtain ⟨i, rfl⟩ := Int.eq_ofNat_of_zero_le (show 0 ≤ at_ by omega)
  have hlt : i < l.length := by omega
  have hne : ((i : Int) == (l.length : Int)) = false := by rw [beq_eq_false_iff_ne]; exact hend
  obtain ⟨b, o, rfl, _⟩ := HC.out.addr (by omega)
  have HCell : Hid (∀ w', Below w.heap.size w w' → w'.cell? ⟨b, o + i, none⟩ = some (.int .u8 (l.getD i 0))) := Lib.hid fun w' h => (HC.out.old h).at i hlt
  have hcell := HCell.out _ HB.out
  have HE0 : Hid (atE l i = if l.getD i 0 ≠ 80 then 3 else tailE (l.drop (i + 1))) := Lib.hid (by unfold atE; rw [if_neg (by omega), if_neg hend, Int.toNat_natCast])
  have hy := HC.out.1.getD i
  generalize l.getD i 0 = y at *
  clear hend
  by_cases h80 : y = 80
  case neg =>
    have HE := Lib.hid (show atE l i = 3 by rw [HE0.out, if_pos h80])
    have e80 : (y != 80) = true := by simpa using h80
    clear h80
    go_enter Tryz.func34, Tryz.ntmps34
    go_wp2_with fail
    exact bodyPost_ret (v := .tuple #[.agg zeroCs, .int .i64 3]) (res_frame rfl _ _ w.heap.size _ zeroCs (0, 0) rfl HZ.out rfl _ rfl) rfl (AtP.err HE.out (by decide) HB.out)
  subst h80
  have HE : Hid (atE l i = tailE (l.drop (i + 1))) := Lib.hid (by rw [HE0.out, if_neg (by decide)])
  clear HE0
  have HU : Hid (Stood (w.alloc (.cells zeroCs 55)) ((w.alloc (.cells zeroCs 55)).alloc (.cells #[.slice (some ⟨b, o, none⟩) l.length cap, .int .i64 (i + 1 : Nat), .slice none 0 0] 94)) (w.heap.size + 1) (.slice (some ⟨b, o, none⟩) l.length cap) l (i + 1) 0) := by
    have hs : (w.alloc (.cells zeroCs 55)).heap.size = w.heap.size + 1 := by simp
    have h := heap_alloc_new (w.alloc (.cells zeroCs 55)) (.cells #[.slice (some ⟨b, o, none⟩) l.length cap, .int .i64 (i + 1 : Nat), .slice none 0 0] 94)
    rw [hs] at h
    exact ⟨.slice none 0 0, h, Own8.nil.alloc _, by rw [hs]; exact Nat.le_refl _, by simp [Value.ownBlock]⟩
  have HC1 := Lib.hid (HC.out.old HB.out)
  have hsz : (w.alloc (.cells zeroCs 55)).heap.size = w.heap.size + 1 := by simp
  have HSz := Lib.hid hsz
  clear hsz
  go_enter Tryz.func34, Tryz.ntmps34
  have H5 := Lib.hid (upTo_any l (some ⟨b, o, none⟩) cap (w.heap.size + 1) (i + 1) 0 5 _ _ HC1.out HU.out rfl (by omega) (by omega) (by omega) hcap hl)
  have HBy := Lib.hid (HC.out.1.drop (i + 1))
  have HH : Hid (∀ w', Below (w.heap.size + 1) (w.alloc (.cells zeroCs 55)) w' → w'.heap[w.heap.size]? = some (.cells zeroCs 55 (0, 0))) := Lib.hid fun w' h => (h.block w.heap.size (by omega)).trans HZ.out
  go_wp2_with fail
  refine H5.out.mono ?_
  rintro e w1 ⟨rfl, v1, hu⟩
  have HU1 := Lib.hid hu
  have HO1 := Lib.hid hu.own
  rw [HSz.out] at HO1
  have HB1 := Lib.hid (HB.out.trans (HO1.out.below.mono (by omega)))
  have hz0 := HH.out _ HO1.out.below
  have HZ1 := Lib.hid hz0
  have hf0 := blk_free hz0 0
  have hf1 := blk_free hz0 1
  have hf2 := blk_free hz0 2
  have hf3 := blk_free hz0 3
  have hk0 := blk_cell hz0 0
  have hk1 := blk_cell hz0 1
  have hk2 := blk_cell hz0 2
  have hk3 := blk_cell hz0 3
  clear hu hz0 hg0 hg1 hg2 hg3
  by_cases he5 : (rdN (l.drop (i + 1)) 5).e = 0
  case neg =>
    have HE2 := Lib.hid (show atE l i = (rdN (l.drop (i + 1)) 5).e by rw [HE.out, tailE, if_pos he5])
    have HN := Lib.hid he5
    have e5 : ((rdN (l.drop (i + 1)) 5).e != 0) = true := by rw [bne_iff_ne]; exact he5
    generalize (rdN (l.drop (i + 1)) 5).e = q at *
    clear he5
    go_wp2_with fail
    exact bodyPost_ret (v := .tuple #[.agg zeroCs, .int .i64 q]) (res_frame rfl _ _ w.heap.size _ zeroCs (0, 0) rfl (blk_store4 HZ1.out rfl _ _ _ _) rfl _ rfl) rfl (AtP.err HE2.out HN.out (HB1.out.trans ((mod_store4 _ _ _ _).toBelow HB1.out.size (by simp))))
  obtain ⟨av, cv, rfl, hlen⟩ := HU1.out.lenCell
  have hok5 := rdN_ok HBy.out 5
  have HX5 := Lib.hid (hok5.2.2.2 he5)
  rw [HX5.out] at hlen
  have hNb := atN_bounds HBy.out
  have HN : Hid (getR (rdN (l.drop (i + 1)) 5).xs 1 4 = atN (l.drop (i + 1)) ∧ getB (rdN (l.drop (i + 1)) 5).xs 1 4 = true) := Lib.hid (getR_front HX5.out)
  have HG := Lib.hid (get_any av (rdN (l.drop (i + 1)) 5).xs cv 1 4 w1 HO1.out.cells (by rw [HX5.out]; omega) 5 HX5.out.symm)
  rw [HN.out.1, HN.out.2] at HG
  have HT5 : Hid (tailE (l.drop (i + 1)) = if 65536 < atN (l.drop (i + 1)) then 4 else if (atA (l.drop (i + 1))).e ≠ 0 then (atA (l.drop (i + 1))).e else if sumOk (atA (l.drop (i + 1))).xs then 0 else 5) := Lib.hid (by rw [tailE, if_neg (by simpa using he5)])
  have HE5 := Lib.hid he5
  have HA : Hid (atA (l.drop (i + 1)) = rdN (l.drop (i + 1)) (9 + (atN (l.drop (i + 1))).toNat)) := Lib.hid rfl
  have e5 : ((rdN (l.drop (i + 1)) 5).e != 0) = false := by rw [he5]; rfl
  have ST5 : Hid (Stood (w.alloc (.cells zeroCs 55)) w1 (w.heap.size + 1) (.slice (some ⟨b, o, none⟩) l.length cap) l (i + 1) 5) := Lib.hid ⟨_, HU1.out⟩
  generalize atN (l.drop (i + 1)) = N at *
  have ec : IntKind.i64.wrap N = N := IntWalk.i64_in _ (by omega)
  clear hok5 he5
  by_cases hbig : 65536 < N
  · have HE2 := Lib.hid (show atE l i = 4 by rw [HE.out, HT5.out, if_pos hbig])
    generalize (rdN (l.drop (i + 1)) 5).e = q at *
    go_wp2_with fail
    refine HG.out.mono ?_
    rintro e w' ⟨rfl, rfl⟩
    go_wp2_with fail
    exact bodyPost_ret (v := .tuple #[.agg zeroCs, .int .i64 4]) (res_frame rfl _ _ w.heap.size _ zeroCs (0, 0) rfl (blk_store4 HZ1.out rfl _ _ _ _) rfl _ rfl) rfl (AtP.err HE2.out (by decide) (HB1.out.trans ((mod_store4 _ _ _ _).toBelow HB1.out.size (by simp))))
  have H9 := Lib.hid (upTo_any l (some ⟨b, o, none⟩) cap (w.heap.size + 1) (i + 1) 5 (9 + N.toNat) _ w1 HC1.out ST5.out HE5.out (by omega) (by omega) (by omega) hcap hl)
  rw [show ((9 + N.toNat : Nat) : Int) = 9 + N by omega] at H9
  generalize (rdN (l.drop (i + 1)) 5).e = q at *
  go_wp2_with fail
  refine HG.out.mono ?_
  rintro e w' ⟨rfl, rfl⟩
  go_wp2_with fail
  clear hf0 hf1 hf2 hf3 hk0 hk1 hk2 hk3 hlen
  refine H9.out.mono ?_
  rintro e w2 ⟨rfl, v2, hu⟩
  have HU2 := Lib.hid hu
  have HO2 := Lib.hid hu.own
  rw [HSz.out] at HO2
  have HB2 := Lib.hid (HB.out.trans (HO2.out.below.mono (by omega)))
  have hz0 := HH.out _ HO2.out.below
  have HZ2 := Lib.hid hz0
  have hf0 := blk_free hz0 0
  have hf1 := blk_free hz0 1
  have hf2 := blk_free hz0 2
  have hf3 := blk_free hz0 3
  have hk0 := blk_cell hz0 0
  have hk1 := blk_cell hz0 1
  have hk2 := blk_cell hz0 2
  have hk3 := blk_cell hz0 3
  have hok9 := rdN_ok HBy.out (9 + N.toNat)
  have hj9 := rdN_j_le HBy.out (9 + N.toNat)
  have hF := atF_ok (l := l) (i := (i : Int))
  rw [Int.toNat_natCast, HA.out] at hF
  rw [HE.out, HT5.out, if_neg (show ¬ 65536 < N by omega), HA.out] at hF
  rw [HT5.out, if_neg (show ¬ 65536 < N by omega), HA.out] at HE
  have HF := Lib.hid hF
  clear hu hz0 HT5 HN HG H5 H9 HA hF ST5
  generalize rdN (l.drop (i + 1)) (9 + N.toNat) = R at *
  obtain ⟨xs, j, er⟩ := R
  simp only at HU2 HO2 HF HE hok9 hj9 ⊢
  by_cases he9 : er = 0
  case neg =>
    have HE2 := Lib.hid (show atE l i = er by rw [HE.out, if_pos he9])
    have HN := Lib.hid he9
    have e9 : (er != 0) = true := by rw [bne_iff_ne]; exact he9
    clear he9 hok9
    go_wp2_with fail
    exact bodyPost_ret (v := .tuple #[.agg zeroCs, .int .i64 er]) (res_frame rfl _ _ w.heap.size _ zeroCs (0, 0) rfl (blk_store4 HZ2.out rfl _ _ _ _) rfl _ rfl) rfl (AtP.err HE2.out HN.out (HB2.out.trans ((mod_store4 _ _ _ _).toBelow HB2.out.size (by simp))))
  subst he9
  have HXL := Lib.hid (hok9.2.2.2 rfl)
  have HXB := Lib.hid hok9.2.2.1
  have HE9 : Hid (atE l i = if sumOk xs = true then 0 else 5) := Lib.hid (by rw [HE.out, if_neg (by simp)])
  have HF9 : Hid (sumOk xs = true → atF l i = ⟨i, 1 + j, xs.getD 0 0, xs.drop 9⟩) := Lib.hid fun h => HF.out (by rw [if_neg (by simp), if_pos h])
  obtain ⟨av2, cv2, rfl, hlen⟩ := HU2.out.lenCell
  obtain ⟨g2, rfl, hg2⟩ := owns_addr HO2.out.own (by rw [HXL.out]; omega)
  have hle := owns_le HO2.out.own
  have hxl := HXL.out
  generalize hM : xs.length = M at hlen hle
  have HM := Lib.hid hM
  have hMN : (M : Int) = 9 + N := by omega
  have HG2 := Lib.hid (get_any (some ⟨g2, 0, none⟩) xs cv2 5 4 w2 HO2.out.cells (by omega) M hM.symm)
  rw [(getR_mid (show 9 ≤ xs.length by omega)).1, (getR_mid (show 9 ≤ xs.length by omega)).2] at HG2
  have HMN := Lib.hid hMN
  have hM9 : 9 ≤ M := by omega
  have htn : (9 + N).toNat = M := by omega
  clear hok9 HE HF hxl hM hMN
  go_wp2_with fail
  refine HG2.out.mono ?_
  rintro e w' ⟨rfl, rfl⟩
  have HSO : Hid (sumOk xs = (val ((xs.drop 5).take 4) == U (sumV 0#32 (xs.take 5 ++ xs.drop 9)))) := Lib.hid rfl
  generalize val ((xs.drop 5).take 4) = sv at *
  have HJ : Hid (i + 1 + j ≤ l.length) := Lib.hid (by have := hj9; simp only [List.length_drop] at this; omega)
  clear hj9
  by_cases hN0 : N = 0
  · subst hN0
    obtain rfl : M = 9 := by omega
    have HPC : Hid (Cells8 w2 (some ⟨g2, 0, none⟩) (xs.drop 9)) := Lib.hid (by rw [show xs.drop 9 = [] by have := HM.out; simp; omega]; exact Cells8.nil _ _)
    have HPay : Hid (Pay (w.heap.size + 1) w2 (some ⟨g2, 0, none⟩) (xs.drop 9)) := Lib.hid ⟨HPC.out, .inl (by have := HM.out; simp; omega)⟩
    have HS := Lib.hid (sumOf_any (xs.take 5) (xs.drop 9) (some ⟨g2, 0, none⟩) (some ⟨g2, 0, none⟩) 5 cv2 (0) (0) w2 (HO2.out.cells.take 5) (by have := HM.out; simp; omega) HPC.out (by have := HM.out; simp; try omega) (by simp; omega) (by have := HM.out; simp; omega) (HT.out.old HB2.out))
    have hcell0 : w2.cell? ⟨g2, 0, none⟩ = some (.int .u8 (xs.getD 0 0)) := HO2.out.cells.at 0 (by have := HM.out; omega)
    have hx0 := HXB.out.getD 0
    generalize U (sumV 0#32 (xs.take 5 ++ xs.drop 9)) = su at *
    by_cases hsu : sv = su
    case neg =>
      have HE2 := Lib.hid (show atE l i = 5 by rw [HE9.out, HSO.out, if_neg (by simpa using hsu)])
      have hb : (sv != su) = true := by rw [bne_iff_ne]; exact hsu
      clear hsu
      go_wp2_with fail
      refine HS.out.mono ?_
      rintro e w' ⟨rfl, rfl⟩
      go_wp2_with fail
      exact bodyPost_ret (v := .tuple #[.agg zeroCs, .int .i64 5]) (res_frame rfl _ _ w.heap.size _ zeroCs (0, 0) rfl (blk_store4 HZ2.out rfl _ _ _ _) rfl _ rfl) rfl (AtP.err HE2.out (by decide) (HB2.out.trans ((mod_store4 _ _ _ _).toBelow HB2.out.size (by simp))))
    have hb : (sv != su) = false := by simp [hsu]
    have hok : sumOk xs = true := by rw [HSO.out, hsu]; simp
    have HE2 := Lib.hid (show atE l i = 0 by rw [HE9.out, if_pos hok])
    have HF2 := Lib.hid (HF9.out hok)
    clear hsu hok
    have hu1 := blk_cell HU2.out.blk 1
    have hsub : IntKind.i64.wrap (((i + 1 + j : Nat) : Int) - (i : Int)) = 1 + (j : Int) := by rw [IntWalk.i64_in _ (by have := HJ.out; omega)]; omega
    generalize i + 1 + j = K at *
    generalize xs.getD 0 0 = x0 at *
    have hx1 : IntKind.i64.wrap x0 = x0 := IntWalk.i64_in _ (by omega)
    go_wp2_with fail
    refine HS.out.mono ?_
    rintro e w' ⟨rfl, rfl⟩
    go_wp2_with fail
    go_region
    go_wp2_with fail
    exact bodyPost_ret (v := .tuple #[.agg #[.int .i64 i, .int .i64 (1 + j), .int .i64 x0, .slice (some ⟨g2, 0, none⟩) (0) (0)], .int .i64 0]) (res_frame rfl _ _ w.heap.size _ #[.int .i64 i, .int .i64 (1 + j), .int .i64 x0, .slice (some ⟨g2, 0, none⟩) (0) (0)] (0, 0) rfl (blk_drew (blk_store4 HZ2.out rfl _ _ _ _)) rfl _ rfl) rfl
      (AtP.ok HE2.out HF2.out ((HPay.out.mod (mod_store4 _ _ _ _).drew (by intro x hx hm; simp at hm; omega)).low (by omega)) (by have := HM.out; simp; try omega) (Nat.le_refl _) (HB2.out.trans ((mod_store4 _ _ _ _).drew.toBelow HB2.out.size (by simp))))
  · skip
    have HPC : Hid (Cells8 w2 (some ⟨g2, 9, none⟩) (xs.drop 9)) := Lib.hid (by have := HO2.out.cells.drop 9; simpa using this)
    have HPay : Hid (Pay (w.heap.size + 1) w2 (some ⟨g2, 9, none⟩) (xs.drop 9)) := Lib.hid ⟨HPC.out, .inr (by obtain ⟨cur, hcur⟩ := owns_typed HO2.out.own; exact ⟨_, cur, rfl, hg2, hcur⟩)⟩
    have HS := Lib.hid (sumOf_any (xs.take 5) (xs.drop 9) (some ⟨g2, 0, none⟩) (some ⟨g2, 9, none⟩) 5 cv2 (M - 9) (M - 9) w2 (HO2.out.cells.take 5) (by have := HM.out; simp; omega) HPC.out (by have := HM.out; simp; try omega) (by simp; omega) (by have := HM.out; simp; omega) (HT.out.old HB2.out))
    have hcell0 : w2.cell? ⟨g2, 0, none⟩ = some (.int .u8 (xs.getD 0 0)) := HO2.out.cells.at 0 (by have := HM.out; omega)
    have hx0 := HXB.out.getD 0
    generalize U (sumV 0#32 (xs.take 5 ++ xs.drop 9)) = su at *
    by_cases hsu : sv = su
    case neg =>
      have HE2 := Lib.hid (show atE l i = 5 by rw [HE9.out, HSO.out, if_neg (by simpa using hsu)])
      have hb : (sv != su) = true := by rw [bne_iff_ne]; exact hsu
      clear hsu
      go_wp2_with fail
      refine HS.out.mono ?_
      rintro e w' ⟨rfl, rfl⟩
      go_wp2_with fail
      exact bodyPost_ret (v := .tuple #[.agg zeroCs, .int .i64 5]) (res_frame rfl _ _ w.heap.size _ zeroCs (0, 0) rfl (blk_store4 HZ2.out rfl _ _ _ _) rfl _ rfl) rfl (AtP.err HE2.out (by decide) (HB2.out.trans ((mod_store4 _ _ _ _).toBelow HB2.out.size (by simp))))
    have hb : (sv != su) = false := by simp [hsu]
    have hok : sumOk xs = true := by rw [HSO.out, hsu]; simp
    have HE2 := Lib.hid (show atE l i = 0 by rw [HE9.out, if_pos hok])
    have HF2 := Lib.hid (HF9.out hok)
    clear hsu hok
    have hu1 := blk_cell HU2.out.blk 1
    have hsub : IntKind.i64.wrap (((i + 1 + j : Nat) : Int) - (i : Int)) = 1 + (j : Int) := by rw [IntWalk.i64_in _ (by have := HJ.out; omega)]; omega
    generalize i + 1 + j = K at *
    generalize xs.getD 0 0 = x0 at *
    have hx1 : IntKind.i64.wrap x0 = x0 := IntWalk.i64_in _ (by omega)
    have hMp : 0 < M := by omega
    go_wp2_with fail
    refine HS.out.mono ?_
    rintro e w' ⟨rfl, rfl⟩
    go_wp2_with fail
    go_region
    go_wp2_with fail
    exact bodyPost_ret (v := .tuple #[.agg #[.int .i64 i, .int .i64 (1 + j), .int .i64 x0, .slice (some ⟨g2, 9, none⟩) (M - 9) (M - 9)], .int .i64 0]) (res_frame rfl _ _ w.heap.size _ #[.int .i64 i, .int .i64 (1 + j), .int .i64 x0, .slice (some ⟨g2, 9, none⟩) (M - 9) (M - 9)] (0, 0) rfl (blk_drew (blk_store4 HZ2.out rfl _ _ _ _)) rfl _ rfl) rfl
      (AtP.ok HE2.out HF2.out ((HPay.out.mod (mod_store4 _ _ _ _).drew (by intro x hx hm; simp at hm; omega)).low (by omega)) (by have := HM.out; simp; try omega) (Nat.le_refl _) (HB2.out.trans ((mod_store4 _ _ _ _).drew.toBelow HB2.out.size (by simp))))
end Go.Proofs.YtbhdlclaooohfaaGreatDoor

