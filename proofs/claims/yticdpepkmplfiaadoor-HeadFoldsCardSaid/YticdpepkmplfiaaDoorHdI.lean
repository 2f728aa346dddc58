/- Head: the program's sameName, Get, Without. -/
import Derived.Test.YticdpepkmplfiaaDoorHdH
namespace Go.Proofs.YticdpepkmplfiaaDoor
open Go.Shelf Go.ChangeShapes Go.WideShapes Go.ChangeAt Go.RowKit
set_option linter.unusedVariables false
set_option linter.unusedSimpArgs false

def smallL (l : List Int) : List Int := l.map smallI
theorem smallL_getD {l : List Int} {i : Nat} (h : i < l.length) : (smallL l).getD i 0 = smallI (l.getD i 0) := by simp [smallL, List.getD, h]
theorem list_ext0 {a b : List Int} (hl : a.length = b.length) (h : ∀ i, i < a.length → a.getD i 0 = b.getD i 0) : a = b := by
  apply List.ext_getElem hl
  intro i h1 h2
  have := h i h1
  simpa [List.getD, h1, h2] using this
set_option maxHeartbeats 1000000 in
theorem same_any (a b : ByteArray) (w : World) (ha : a.size ≤ 1000000) (hb : b.size ≤ 1000000) : Calls Tryd.prog 35 #[.string a, .string b] w (BoolM (decide (smallL (nums a) = smallL (nums b))) w) := by
  unfold BoolM
  have hla := nums_length a
  have hlb := nums_length b
  by_cases hl : a.size = b.size
  · have z1 : ((a.size : Int) != (b.size : Int)) = false := by rw [bne_eq_false_iff_eq]; omega
    have z2 : (a.size : Int) = (b.size : Int) := by omega
    have HL := Lib.hid hl
    have HLa := Lib.hid hla
    have HLb := Lib.hid hlb
    clear hl hla hlb z2
    go_enter Tryd.func35, Tryd.ntmps35
    go_wp2_with fail
    go_loopw [13] (fun v wr => ∃ k : Nat, v = .int .i64 k ∧ k ≤ a.size ∧ (∀ j, j < k → smallI ((nums a).getD j 0) = smallI ((nums b).getD j 0)) ∧ Mod [] w wr) (fun v _ => a.size - (intOf v).toNat)
    case atStart => exact ⟨0, rfl, Nat.zero_le _, fun j hj => by omega, Mod.refl _ _⟩
    case round =>
      obtain ⟨k, rfl, hk, hall, hm⟩ := hrel
      have HA := Lib.hid hall
      have HM := Lib.hid hm
      clear hall hm
      by_cases hlt : k < a.size
      · have ia := idx_strP (P := Tryd.prog) 9 Tryd.underlying9 a (k : Int) k rfl hlt _ rfl
        have ib := idx_strP (P := Tryd.prog) 9 Tryd.underlying9 b (k : Int) k rfl (by have := HL.out; omega) _ rfl
        have HX := Lib.hid (show ∀ x, (nums a).getD k 0 = x → (nums a).getD k 0 = x from fun _ h => h)
        generalize hx : (nums a).getD k 0 = x at *
        generalize hy : (nums b).getD k 0 = y at *
        have HXx := Lib.hid hx
        have HYy := Lib.hid hy
        clear hx hy HX
        by_cases he : smallI x = smallI y
        · have HS := Lib.hid (show ∀ j, j < k + 1 → smallI ((nums a).getD j 0) = smallI ((nums b).getD j 0) by
            intro j hj
            by_cases hjk : j = k
            · subst hjk; rw [HXx.out, HYy.out]; exact he
            · exact HA.out j (by omega))
          have HSx := Lib.hid (fun W => small_any x W)
          have HSy := Lib.hid (fun W => small_any y W)
          have q1 : (smallI x != smallI y) = false := by rw [bne_eq_false_iff_eq]; exact he
          rw [← he] at HSy
          clear q1 he
          generalize smallI x = u at *
          go_wp2_with fail
          go_region_held3 (fun _ => True) (trivial) ((go_at_call 43; first | ((with_reducible refine (HSx.out _).mono ?_); rintro e w1 ⟨rfl, rfl⟩) | ((with_reducible refine (HSy.out _).mono ?_); rintro e w1 ⟨rfl, rfl⟩)))
          all_goals
            go_wp2_with fail
            go_roundw
            case rel => exact ⟨k + 1, by go_num, by omega, HS.out, HM.out.drew⟩
            case measure => simp [intOf]; omega
        · have HR := Lib.hid (show decide (smallL (nums a) = smallL (nums b)) = false by
            rw [decide_eq_false_iff_not]
            intro hh
            apply he
            have h1 := smallL_getD (l := nums a) (i := k) (by rw [HLa.out]; exact hlt)
            have h2 := smallL_getD (l := nums b) (i := k) (by rw [HLb.out]; have := HL.out; omega)
            rw [hh, h2, HXx.out, HYy.out] at h1
            exact h1.symm)
          have HSx := Lib.hid (fun W => small_any x W)
          have HSy := Lib.hid (fun W => small_any y W)
          have HNe := Lib.hid he
          generalize smallI x = u at *
          generalize smallI y = v at *
          go_wp2_with fail
          go_region_held3 (fun _ => True) (trivial) ((go_at_call 43; first | ((with_reducible refine (HSx.out _).mono ?_); rintro e w1 ⟨rfl, rfl⟩) | ((with_reducible refine (HSy.out _).mono ?_); rintro e w1 ⟨rfl, rfl⟩)))
          all_goals
            go_wp2_with fail
            go_ret
            exact ⟨ret_bool HR.out.symm, HM.out.drew⟩
      · have hke : k = a.size := by omega
        have HR := Lib.hid (show decide (smallL (nums a) = smallL (nums b)) = true by
          rw [decide_eq_true_iff]
          apply list_ext0
          · simp only [smallL, List.length_map]; rw [HLa.out, HLb.out]; exact HL.out
          · intro i hi
            have hi' : i < (nums a).length := by simpa [smallL] using hi
            rw [HLa.out] at hi'
            rw [smallL_getD (by rw [HLa.out]; exact hi'), smallL_getD (by rw [HLb.out]; have := HL.out; omega)]
            exact HA.out i (by omega))
        clear hke
        go_wp2_with fail
        go_ret
        exact ⟨ret_bool HR.out.symm, HM.out⟩
  · have z1 : ((a.size : Int) != (b.size : Int)) = true := by rw [bne_iff_ne]; omega
    have HR := Lib.hid (show decide (smallL (nums a) = smallL (nums b)) = false by
      rw [decide_eq_false_iff_not]
      intro hh
      have := congrArg List.length hh
      simp only [smallL, List.length_map] at this
      omega)
    have z2 : ¬ (a.size : Int) = (b.size : Int) := by omega
    clear hl hla hlb
    go_enter Tryd.func35, Tryd.ntmps35
    go_wp2_with fail
    go_ret
    exact ⟨ret_bool HR.out.symm, Mod.refl _ _⟩
def isNm (name : List Int) (f : Fd) : Bool := decide (smallL f.1 = smallL name)
def getL (name : List Int) (fs : List Fd) : List (List Int) := (fs.filter (isNm name)).map (·.2)
def withoutL (name : List Int) (fs : List Fd) : List Fd := fs.filter fun f => !isNm name f
theorem getL_yes {name : List Int} {fs : List Fd} {k : Nat} (hk : k < fs.length) (h : isNm name (fs.getD k ([], [])) = true) : getL name (fs.take (k + 1)) = getL name (fs.take k) ++ [(fs.getD k ([], [])).2] := by
  unfold getL; rw [takeF_succ fs k hk, List.filter_append, List.map_append]; simp only [List.filter_cons, h, if_true, List.filter_nil, List.map_cons, List.map_nil]
theorem getL_no {name : List Int} {fs : List Fd} {k : Nat} (hk : k < fs.length) (h : isNm name (fs.getD k ([], [])) = false) : getL name (fs.take (k + 1)) = getL name (fs.take k) := by
  unfold getL; rw [takeF_succ fs k hk, List.filter_append]
  rw [show [fs.getD k ([], [])].filter (isNm name) = [] by rw [List.filter_cons, if_neg (by rw [h]; simp)]; rfl, List.append_nil]
theorem withoutL_yes {name : List Int} {fs : List Fd} {k : Nat} (hk : k < fs.length) (h : isNm name (fs.getD k ([], [])) = true) : withoutL name (fs.take (k + 1)) = withoutL name (fs.take k) := by
  unfold withoutL; rw [takeF_succ fs k hk, List.filter_append]
  rw [show [fs.getD k ([], [])].filter (fun f => !isNm name f) = [] by rw [List.filter_cons, if_neg (by rw [h]; simp)]; rfl, List.append_nil]
theorem withoutL_no {name : List Int} {fs : List Fd} {k : Nat} (hk : k < fs.length) (h : isNm name (fs.getD k ([], [])) = false) : withoutL name (fs.take (k + 1)) = withoutL name (fs.take k) ++ [fs.getD k ([], [])] := by
  unfold withoutL; rw [takeF_succ fs k hk, List.filter_append]
  rw [show [fs.getD k ([], [])].filter (fun f => !isNm name f) = [fs.getD k ([], [])] by rw [List.filter_cons, if_pos (by rw [h]; rfl)]; rfl]
theorem getL_len (name : List Int) (fs : List Fd) : (getL name fs).length ≤ fs.length := by unfold getL; rw [List.length_map]; exact List.length_filter_le _ _
theorem withoutL_len (name : List Int) (fs : List Fd) : (withoutL name fs).length ≤ fs.length := List.length_filter_le _ _
def GetP (L : List (List Int)) (w : World) (e : Ending) (w' : World) : Prop := ∃ a' n' c', e = .returned (.slice a' n' c') ∧ w'.ownsRow w.heap.size 9 1 (.slice a' n' c') n' (txs L) ∧ Mod [] w w'
def WithoutP (fs : List Fd) (w : World) (e : Ending) (w' : World) : Prop := ∃ a' n' c', e = .returned (.slice a' n' c') ∧ OwnF w.heap.size w' (.slice a' n' c') n' fs ∧ Mod [] w w'
theorem infoS : (Tryd.prog.info? 9).map (fun i => (i.zero, i.size, i.bytes)) = some (some (.string ByteArray.empty), 1, 16) := by kernel_rfl
set_option maxRecDepth 100000 in
set_option maxHeartbeats 4000000 in
theorem get_any (w : World) (la : Option Addr) (ln lc : Nat) (fs : List Fd) (h : CellsF w la fs) (hn : ln = fs.length) (hs : ∀ f ∈ fs, f.1.length ≤ 1000000) (hl : ln ≤ 100000) (name : ByteArray) (hnm : name.size ≤ 1000000) :
    Calls Tryd.prog 17 #[.slice la ln lc, .string name] w (GetP (getL (nums name) fs) w) := by
  unfold GetP
  have HF := Lib.hid h
  have HL := Lib.hid hn
  have HS := Lib.hid hs
  clear h hn hs
  go_enter Tryd.func17, Tryd.ntmps17
  go_wp2_with fail
  go_loopw [5, 10] (fun u v wr => ∃ (k : Nat) (ca : Option Addr) (cn cc : Nat), u = .slice ca cn cc ∧ v = .int .i64 k ∧ k ≤ ln ∧ wr.ownsRow w.heap.size 9 1 (.slice ca cn cc) cn (txs (getL (nums name) (fs.take k))) ∧ Mod [] w wr) (fun _ v _ => ln - (intOf v).toNat)
  case atStart => exact ⟨0, none, 0, 0, rfl, rfl, Nat.zero_le _, World.ownsRow_nil _ _ _ _, Mod.refl _ _⟩
  case round =>
    obtain ⟨k, ca, cn, cc, rfl, rfl, hk, ho, hm⟩ := hrel
    have HO := Lib.hid ho
    have HM := Lib.hid hm
    have hcn : cn ≤ 100000 := by
      have h1 := ho.1
      have h2 := getL_len (nums name) (fs.take k)
      rw [List.length_take] at h2
      simp only [txs, List.length_map] at h1
      omega
    clear ho hm
    by_cases hlt : k < ln
    · have hkf : k < fs.length := by rw [← HL.out]; exact hlt
      obtain ⟨b, o, rfl, -⟩ := HF.out.addr (by omega)
      obtain ⟨x, y, hx, hy, hcell⟩ := HF.out.row k hkf
      obtain ⟨k0, k1⟩ := hcell wr HM.out
      have hx6 : x.size ≤ 1000000 := by rw [← nums_length, hx]; exact HS.out _ (getDF_mem hkf)
      have hix := fix (P := Tryd.prog) 22 28 Tryd.underlying22 sizeFd b o ln lc k hlt
      have HG := Lib.hid (fun W => same_any x name W hx6 hnm)
      unfold BoolM at HG
      have HQ := Lib.hid (show decide (smallL (nums x) = smallL (nums name)) = isNm (nums name) (fs.getD k ([], [])) by rw [hx]; rfl)
      have HY := Lib.hid hy
      have HKf := Lib.hid hkf
      clear hx hy hcell hkf
      have HMa := Lib.hid ((Mod.refl [] wr).alloc (.cells (fdC x y) 28))
      have HNa := Lib.hid (heap_alloc_new wr (.cells (fdC x y) 28))
      cases hq : decide (smallL (nums x) = smallL (nums name)) with
      | false =>
        rw [hq] at HG HQ
        have HN := Lib.hid (getL_no (name := nums name) HKf.out HQ.out.symm)
        clear hq
        go_wp2_with (go_at_call 35; refine (HG.out _).mono ?_; rintro e w1 ⟨rfl, hm1⟩; have HM1 := Lib.hid (HMa.out.trans hm1); clear hm1)
        go_roundw
        case rel => exact ⟨k + 1, ca, cn, cc, rfl, by go_num, by omega, by rw [HN.out]; exact HM1.out.owns HO.out (by simp), HM.out.trans HM1.out⟩
        case measure => simp [intOf]; omega
      | true =>
        rw [hq] at HG HQ
        have HN := Lib.hid (getL_yes (name := nums name) HKf.out HQ.out.symm)
        clear hq
        go_wp2_with fail
        refine (HG.out _).mono ?_
        rintro e w1 ⟨rfl, hm1⟩
        have HM1 := Lib.hid (HMa.out.trans hm1)
        have q1 := blk_cell (hm1.row HNa.out (by simp)) 1
        have HO1 := Lib.hid (((HM1.out.owns HO.out (by simp)) : w1.ownsRow w.heap.size 9 1 (.slice ca cn cc) cn _))
        clear hm1
        have HB1 := Lib.hid (Nat.le_trans HM.out.size HM1.out.size)
        have HMy := Lib.hid ((Mod.refl [] w1).alloc (.cells #[.string y] 9))
        have HTx := Lib.hid (show txs [(fs.getD k ([], [])).2] = [.string y] by
          show [Value.string (strOfNums (fs.getD k ([], [])).2)] = _
          rw [← HY.out, strOfNums_nums])
        go_wp2_with (at_builtin; refine wpList_appS _ rfl _ _ 39 39 rfl 9 Tryd.underlying39 infoS w.heap.size _ cn _ (HMy.out.owns HO1.out (by simp)) (Nat.le_trans HB1.out HMy.out.size) rfl _ 1 [(fs.getD k ([], [])).2] rfl (by rw [HTx.out]; exact src_one Tryd.prog w1 (.string y) rfl 9 Tryd.underlying39) (by omega) ?_; intro a2 n2 c2 w2 ho2 hn2 hm2; have HO2 := Lib.hid ho2; have HN2 := Lib.hid hn2; have HM2 := Lib.hid hm2; clear ho2 hn2 hm2)
        go_roundw
        case rel =>
          refine ⟨k + 1, a2, n2, c2, rfl, by go_num, by omega, by rw [HN.out]; exact HO2.out, ?_⟩
          refine ((HM.out.trans HM1.out).trans HMy.out).trans' HM2.out ?_
          intro z hz
          exact Or.inr (owns_lt HO.out (by simpa using hz)).1
        case measure => simp [intOf]; omega
    · have hkl : k = ln := by omega
      rw [hkl, HL.out, List.take_length] at HO
      clear hk hkl
      go_wp2_with fail
      go_ret
      exact ⟨ca, cn, cc, rfl, HO.out, HM.out⟩
set_option maxRecDepth 100000 in
set_option maxHeartbeats 4000000 in
theorem without_any (w : World) (la : Option Addr) (ln lc : Nat) (fs : List Fd) (h : CellsF w la fs) (hn : ln = fs.length) (hs : ∀ f ∈ fs, f.1.length ≤ 1000000) (hl : ln ≤ 100000) (name : ByteArray) (hnm : name.size ≤ 1000000) :
    Calls Tryd.prog 18 #[.slice la ln lc, .string name] w (WithoutP (withoutL (nums name) fs) w) := by
  unfold WithoutP
  have HF := Lib.hid h
  have HL := Lib.hid hn
  have HS := Lib.hid hs
  clear h hn hs
  go_enter Tryd.func18, Tryd.ntmps18
  go_wp2_with fail
  go_loopw [5, 10] (fun u v wr => ∃ (k : Nat) (ca : Option Addr) (cn cc : Nat), u = .slice ca cn cc ∧ v = .int .i64 k ∧ k ≤ ln ∧ OwnF w.heap.size wr (.slice ca cn cc) cn (withoutL (nums name) (fs.take k)) ∧ Mod [] w wr) (fun _ v _ => ln - (intOf v).toNat)
  case atStart => exact ⟨0, none, 0, 0, rfl, rfl, Nat.zero_le _, OwnF.nil _ _, Mod.refl _ _⟩
  case round =>
    obtain ⟨k, ca, cn, cc, rfl, rfl, hk, ho, hm⟩ := hrel
    have HO := Lib.hid ho
    have HM := Lib.hid hm
    have hcn : cn ≤ 100000 := by
      have h1 := ho.len
      have h2 := withoutL_len (nums name) (fs.take k)
      rw [List.length_take] at h2
      omega
    have hcn6 : cn ≤ 1000000 := by omega
    clear ho hm
    by_cases hlt : k < ln
    · have hkf : k < fs.length := by rw [← HL.out]; exact hlt
      obtain ⟨b, o, rfl, -⟩ := HF.out.addr (by omega)
      obtain ⟨x, y, hx, hy, hcell⟩ := HF.out.row k hkf
      obtain ⟨k0, k1⟩ := hcell wr HM.out
      have hx6 : x.size ≤ 1000000 := by rw [← nums_length, hx]; exact HS.out _ (getDF_mem hkf)
      have hix := fix (P := Tryd.prog) 22 28 Tryd.underlying22 sizeFd b o ln lc k hlt
      have HG := Lib.hid (fun W => same_any x name W hx6 hnm)
      unfold BoolM at HG
      have HQ := Lib.hid (show decide (smallL (nums x) = smallL (nums name)) = isNm (nums name) (fs.getD k ([], [])) by rw [hx]; rfl)
      have HX := Lib.hid hx
      have HY := Lib.hid hy
      have HKf := Lib.hid hkf
      clear hx hy hcell hkf
      have HMa := Lib.hid ((Mod.refl [] wr).alloc (.cells (fdC x y) 28))
      have HNa := Lib.hid (heap_alloc_new wr (.cells (fdC x y) 28))
      cases hq : decide (smallL (nums x) = smallL (nums name)) with
      | true =>
        rw [hq] at HG HQ
        have HN := Lib.hid (withoutL_yes (name := nums name) HKf.out HQ.out.symm)
        clear hq
        go_wp2_with (go_at_call 35; refine (HG.out _).mono ?_; rintro e w1 ⟨rfl, hm1⟩; have HM1 := Lib.hid (HMa.out.trans hm1); clear hm1)
        go_roundw
        case rel => exact ⟨k + 1, ca, cn, cc, rfl, by go_num, by omega, by rw [HN.out]; exact HO.out.quiet HM1.out, HM.out.trans HM1.out⟩
        case measure => simp [intOf]; omega
      | false =>
        rw [hq] at HG HQ
        have HN := Lib.hid (withoutL_no (name := nums name) HKf.out HQ.out.symm)
        clear hq
        go_wp2_with fail
        refine (HG.out _).mono ?_
        rintro e w1 ⟨rfl, hm1⟩
        have HM1 := Lib.hid (HMa.out.trans hm1)
        have q0 := blk_cell (hm1.row HNa.out (by simp)) 0
        have q1 := blk_cell (hm1.row HNa.out (by simp)) 1
        have HO1 := Lib.hid (HO.out.quiet HM1.out)
        clear hm1
        have HB1 := Lib.hid (Nat.le_trans HM.out.size HM1.out.size)
        go_wp2_with (at_builtin; refine wpList_appF _ rfl _ _ 22 22 rfl Tryd.underlying22 Tryd.underlying22 w.heap.size w1 _ cn _ HO1.out HB1.out rfl (fs.getD k ([], [])) x y HX.out HY.out rfl _ rfl rfl hcn6 ?_; intro a2 n2 c2 w2 ho2 hm2; have HO2 := Lib.hid ho2; have HM2 := Lib.hid hm2; clear ho2 hm2)
        go_roundw
        case rel =>
          refine ⟨k + 1, a2, n2, c2, rfl, by go_num, by omega, by rw [HN.out]; exact HO2.out, ?_⟩
          refine (HM.out.trans HM1.out).trans' HM2.out ?_
          intro z hz
          exact Or.inr (owns_lt HO.out.1 (by simpa using hz)).1
        case measure => simp [intOf]; omega
    · have hkl : k = ln := by omega
      rw [hkl, HL.out, List.take_length] at HO
      clear hk hkl
      go_wp2_with fail
      go_ret
      exact ⟨ca, cn, cc, rfl, HO.out, HM.out⟩
end Go.Proofs.YticdpepkmplfiaaDoor
