/- Head: the program's Build. -/
import Derived.Test.YticdpepkmplfiaaDoorHdG
namespace Go.Proofs.YticdpepkmplfiaaDoor
open Go.Shelf Go.ChangeShapes Go.WideShapes Go.ChangeAt Go.RowKit
set_option linter.unusedVariables false
set_option linter.unusedSimpArgs false

theorem flat_len : ∀ (n : Nat) (s : List Int) (lo : Nat), 0 < lo → (flat (foldF n s lo)).length ≤ 3 * s.length + 2 := by
  intro n
  induction n with
  | zero => intro s lo h; simp [foldF, flat]; omega
  | succ n ih =>
    intro s lo h
    rw [foldF]
    split
    · simp [flat]; omega
    · rename_i hc
      simp only [not_or] at hc
      obtain ⟨-, k2, -, -⟩ := cutP_pos h _ _ rfl hc.2
      have := ih (s.drop (cutP s lo s.length)) 2 (by omega)
      rw [flat_cons]
      simp only [List.length_append, List.length_cons, List.length_take, List.length_drop] at *
      omega
theorem written_len {f : Fd} (h : goodF f = true) : (writtenN f).length ≤ 2708 := by
  obtain ⟨-, -, -, -, h5⟩ := (goodF_iff f).1 h
  have := flat_len (lineS f).length (lineS f) (f.1.length + 3) (by omega)
  rw [lineS_length] at this
  unfold writtenN linesN
  rw [lineS_length]
  omega
def buildR (fs : List Fd) (body : List Int) : List Int × Int := if fs.all goodF = true then (buildN fs body, 0) else ([], 3)
def BuildP (r : List Int × Int) (w : World) (e : Ending) (w' : World) : Prop := ∃ a' n' c', e = .returned (.tuple #[.slice a' n' c', .int .i64 r.2]) ∧ Own8 5 w.heap.size w w' (.slice a' n' c') n' r.1
theorem allF_no {fs : List Fd} {k : Nat} (hk : k < fs.length) (h : goodF (fs.getD k ([], [])) = false) : ¬ fs.all goodF = true := by
  intro hh
  have := List.all_eq_true.1 hh _ (getDF_mem hk)
  rw [h] at this; cases this
theorem allF_step {fs : List Fd} {k : Nat} (h : (fs.take k).all goodF = true) (hk : k < fs.length) (hb : goodF (fs.getD k ([], [])) = true) : (fs.take (k + 1)).all goodF = true := by
  rw [takeF_succ fs k hk, List.all_append, h]; simp only [List.all_cons, List.all_nil, hb]; rfl
/-- the k-th field's cells -/
theorem CellsF.row {w : World} {b o : Nat} {fs : List Fd} (h : CellsF w (some ⟨b, o, none⟩) fs) (k : Nat) (hk : k < fs.length) : ∃ x y : ByteArray, nums x = (fs.getD k ([], [])).1 ∧ nums y = (fs.getD k ([], [])).2 ∧ ∀ W, Mod [] w W → W.cell? ⟨b, o + k * 2, none⟩ = some (.string x) ∧ W.cell? ⟨b, o + k * 2 + 1, none⟩ = some (.string y) := by
  obtain ⟨h1, h2⟩ := h.byt k hk
  refine ⟨_, _, nums_strOfNums h1, nums_strOfNums h2, fun W hm => ?_⟩
  have := (h.quiet hm).at k hk
  rwa [Nat.mul_comm] at this
def Small (fs : List Fd) : Prop := fs.length ≤ 1000 ∧ ∀ f ∈ fs, f.1.length ≤ 1000 ∧ f.2.length ≤ 1000
theorem Small.at {fs : List Fd} (h : Small fs) {k : Nat} (hk : k < fs.length) {x y : ByteArray} (hx : nums x = (fs.getD k ([], [])).1) (hy : nums y = (fs.getD k ([], [])).2) : x.size ≤ 1000 ∧ y.size ≤ 1000 := by
  obtain ⟨h1, h2⟩ := h.2 _ (getDF_mem hk)
  rw [← nums_length, ← nums_length, hx, hy]; exact ⟨h1, h2⟩
theorem fix {P : Program} (T e : TypeId) (hT : P.underlying T = some (.slice e)) (hz : ∀ w, (Go.sizeOf e).run P w = .ok 2 w) (b o n cap i : Nat) (hi : i < n) : ∀ W, (Instr.indexAt T (.slice (some ⟨b, o, none⟩) n cap) (.int .i64 i)).run P W = .ok (.pointer (some ⟨b, o + i * 2, none⟩)) W := ixa T e hT 2 hz _ b o n cap i rfl hi
set_option maxRecDepth 100000 in
set_option maxHeartbeats 4000000 in
theorem build_any (w : World) (la : Option Addr) (ln lc : Nat) (fs : List Fd) (h : CellsF w la fs) (hn : ln = fs.length) (hs : Small fs) (ba : Option Addr) (bn bc : Nat) (body : List Int) (hb : Cells8 w ba body) (hbn : bn = body.length) (hb6 : body.length ≤ 1000000) :
    Calls Tryd.prog 11 #[.slice la ln lc, .slice ba bn bc] w (BuildP (buildR fs body) w) := by
  unfold BuildP
  have HF := Lib.hid h
  have HL := Lib.hid hn
  have HS := Lib.hid hs
  have HB := Lib.hid hb
  have HBn := Lib.hid hbn
  have HB6 := Lib.hid hb6
  have hln : ln ≤ 1000 := by rw [hn]; exact hs.1
  clear h hn hs hb hbn hb6
  go_enter Tryd.func11, Tryd.ntmps11
  go_wp2_with fail
  go_loopw [13] (fun v wr => ∃ k : Nat, v = .int .i64 k ∧ k ≤ ln ∧ (fs.take k).all goodF = true ∧ Mod [] w wr) (fun v _ => ln - (intOf v).toNat)
  case atStart => exact ⟨0, rfl, Nat.zero_le _, rfl, Mod.refl _ _⟩
  case round =>
    obtain ⟨k, rfl, hk, hall, hm⟩ := hrel
    have HA := Lib.hid hall
    have HM := Lib.hid hm
    clear hall hm
    by_cases hlt : k < ln
    · have hkf : k < fs.length := by rw [← HL.out]; exact hlt
      obtain ⟨b, o, rfl, -⟩ := HF.out.addr (by omega)
      obtain ⟨x, y, hx, hy, hcell⟩ := HF.out.row k hkf
      obtain ⟨k0, k1⟩ := hcell wr HM.out
      obtain ⟨hx6, hy6⟩ := HS.out.at hkf hx hy
      have hix := fix (P := Tryd.prog) 22 28 Tryd.underlying22 sizeFd b o ln lc k hlt
      have HG := Lib.hid (fun W => good_any x y W (by omega) (by omega))
      unfold BoolM at HG
      have HQ := Lib.hid (show goodF (nums x, nums y) = goodF (fs.getD k ([], [])) by rw [hx, hy])
      have HKf := Lib.hid hkf
      clear hx hy hcell hkf
      have HMa := Lib.hid (HM.out.alloc (.cells (fdC x y) 28))
      cases hq : goodF (nums x, nums y) with
      | false =>
        rw [hq] at HG HQ
        have HR := Lib.hid (show buildR fs body = ([], 3) from if_neg (allF_no HKf.out HQ.out.symm))
        clear hq
        go_wp2_with (go_at_call 9; refine (HG.out _).mono ?_; rintro e w1 ⟨rfl, hm1⟩; have HM1 := Lib.hid (HMa.out.trans hm1); clear hm1)
        go_ret2
        refine ⟨none, 0, 0, by rw [HR.out]; rfl, ?_⟩
        rw [HR.out]
        exact (Own8.nil 5 w).quiet HM1.out
      | true =>
        rw [hq] at HG HQ
        have HN := Lib.hid (allF_step HA.out HKf.out HQ.out.symm)
        clear hq
        go_wp2_with (go_at_call 9; refine (HG.out _).mono ?_; rintro e w1 ⟨rfl, hm1⟩; have HM1 := Lib.hid (HMa.out.trans hm1); clear hm1)
        go_roundw
        case rel => exact ⟨k + 1, by go_num, by omega, HN.out, HM1.out⟩
        case measure => simp [intOf]; omega
    · have hkl : k = ln := by omega
      have HAll := Lib.hid (show fs.all goodF = true by
        have := HA.out
        rwa [hkl, HL.out, List.take_length] at this)
      have HR := Lib.hid (show buildR fs body = (buildN fs body, 0) from if_pos HAll.out)
      clear hk HA
      go_wp2_with fail
      go_loopw [8, 23] (fun u v wr => ∃ (k : Nat) (ca : Option Addr) (cn cc : Nat), u = .slice ca cn cc ∧ v = .int .i64 k ∧ k ≤ ln ∧ Own8 5 w.heap.size w wr (.slice ca cn cc) cn ((fs.take k).flatMap writtenN) ∧ ((fs.take k).flatMap writtenN).length ≤ 2708 * k) (fun _ v _ => ln - (intOf v).toNat)
      case atStart => exact ⟨0, none, 0, 0, rfl, rfl, Nat.zero_le _, (Own8.nil 5 w).quiet HM.out, by simp⟩
      case round =>
        obtain ⟨k, ca, cn, cc, rfl, rfl, hk, ho, hle⟩ := hrel
        have HO := Lib.hid ho
        have HLe := Lib.hid hle
        clear ho hle hkl hlt
        by_cases hlt : k < ln
        · have hkf : k < fs.length := by rw [← HL.out]; exact hlt
          obtain ⟨b, o, rfl, hbk⟩ := HF.out.addr (by omega)
          have hmo : CellsF wr (some ⟨b, o, none⟩) fs := HF.out.mod (Mod.ofBelow HO.out.below) (by simp)
          obtain ⟨x, y, hx, hy, hcell⟩ := hmo.row k hkf
          obtain ⟨k0, k1⟩ := hcell wr (Mod.refl _ _)
          obtain ⟨hx6, hy6⟩ := HS.out.at hkf hx hy
          have hix := fix (P := Tryd.prog) 22 28 Tryd.underlying22 sizeFd b o ln lc k hlt
          have hgk : goodF (nums x, nums y) = true := by
            rw [hx, hy]; exact List.all_eq_true.1 HAll.out _ (getDF_mem hkf)
          have HAp := Lib.hid (fun (W : World) (hm : Mod [] wr W) => appField_any w.heap.size w W ca cn cc _ (HO.out.quiet hm) x y hgk (by have := HLe.out; omega))
          unfold AppP at HAp
          have HNx := Lib.hid (show (fs.take k).flatMap writtenN ++ writtenN (nums x, nums y) = (fs.take (k + 1)).flatMap writtenN by
            rw [takeF_succ fs k hkf, List.flatMap_append, hx, hy]; simp)
          have HWl := Lib.hid (written_len hgk)
          rw [HNx.out] at HAp
          have HMa := Lib.hid ((Mod.refl [] wr).alloc (.cells (fdC x y) 28))
          clear hx hy hcell hkf hmo hgk
          go_wp2_with (go_at_call 27; refine (HAp.out _ HMa.out).mono ?_; rintro e w1 ⟨a1, n1, c1, rfl, ho1⟩; have HO1 := Lib.hid ho1; clear ho1)
          go_roundw
          case rel => exact ⟨k + 1, a1, n1, c1, rfl, by go_num, by omega, HO1.out, by rw [← HNx.out, List.length_append]; have := HLe.out; have := HWl.out; omega⟩
          case measure => simp [intOf]; omega
        · have hkl : k = ln := by omega
          rw [hkl, HL.out, List.take_length] at HO
          have HLe2 := Lib.hid (show (fs.flatMap writtenN).length ≤ 2708000 by
            have := HLe.out
            rw [hkl, HL.out, List.take_length] at this
            have := HS.out.1
            omega)
          have HBb := Lib.hid (fun (W : World) (hb : Below w.heap.size w W) => (HB.out.mod (Mod.ofBelow hb) (by simp) : Cells8 W ba body))
          clear hk hkl HLe
          go_wp2_with (first | (at_builtin; refine wpList_own8 _ rfl _ _ 23 23 rfl 5 Tryd.underlying23 info8 w.heap.size w w5 _ _ _ HO5.out (Mod.refl [] w5) rfl _ _ body rfl (Src.of8 (HBb.out _ HO5.out.below) Tryd.underlying23 _ _ HBn.out) HB.out.1 (by have := HLe2.out; have := HB6.out; simp only [List.length_append, List.length_cons, List.length_nil]; omega) ?_; intro a6 n6 c6 w6 ho6; have HO6 := Lib.hid ho6; clear ho6) | (at_builtin; refine wpList_own8 _ rfl _ _ 23 9 rfl 5 Tryd.underlying23 info8 w.heap.size w wr _ _ _ HO.out (Mod.refl [] wr) rfl _ _ [13, 10] rfl (by rw [← crlf_nums]; exact src_str Tryd.underlying9 _ _) crlf_bytes (by have := HLe2.out; simp only [List.length_append, List.length_cons, List.length_nil]; omega) ?_; intro a5 n5 c5 w5 ho5; have HO5 := Lib.hid ho5; clear ho5))
          go_ret2
          refine ⟨a6, n6, c6, by rw [HR.out]; rfl, ?_⟩
          rw [HR.out]
          have := HO6.out
          rw [List.append_assoc] at this
          exact this
end Go.Proofs.YticdpepkmplfiaaDoor
