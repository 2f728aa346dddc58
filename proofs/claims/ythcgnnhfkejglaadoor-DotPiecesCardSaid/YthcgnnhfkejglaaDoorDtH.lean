/- Send: the walk. -/
import Derived.Test.YthcgnnhfkejglaaDoorDtG
namespace Go.Proofs.YthcgnnhfkejglaaDoor
open Go.Shelf Go.ChangeShapes Go.WideShapes Go.ChangeAt Go.RowKit
set_option linter.unusedVariables false
set_option linter.unusedSimpArgs false

/-- the pieces as values -/
def PiecesV (a : Option Addr) (l : List Int) (V : List Value) : Prop := V.length = cntL l + 1 ∧ ∀ j, j < cntL l + 1 → ∃ a' cp, V[j]? = some (.slice a' ((piecesL l).getD j []).length cp) ∧ ((piecesL l).getD j []).length ≤ l.length ∧ ∀ w, Cells8 w a l → Cells8 w a' ((piecesL l).getD j [])
def SplitP (a : Option Addr) (l : List Int) (w : World) (e : Ending) (w' : World) : Prop := e = .returned (.slice (some ⟨w.heap.size, 0, none⟩) (cntL l + 1) (cntL l + 1)) ∧ Mod [] w w' ∧ ∃ V : List Value, w'.heap[w.heap.size]? = some (.cells V.toArray 22 (0, 0)) ∧ PiecesV a l V
theorem split_any (w : World) (a : Option Addr) (n cap : Nat) (l : List Int) (h : In8 w a n cap l) (hM : ML w) (g : Nat) (hg : w.heap[g]? = some endO) (hn : l.length ≤ 100000) :
    Calls Tryd.prog 21 #[.slice a n cap, .slice (some ⟨g, 0, none⟩) 2 2] w (SplitP a l w) := by
  obtain ⟨m, hm⟩ := hM
  have he := end_cells hg
  rcases h with ⟨rfl, rfl, rfl, rfl⟩ | ⟨y, rfl, h1, h2, h3, rfl⟩
  · refine (Tryd.bytes_SplitAfter_nil (some ⟨g, 0, none⟩) 2 2 w (by omega) (by omega) (by omega)).mono ?_
    rintro e w' ⟨rfl, rfl⟩
    refine ⟨by rw [cntL_no rfl], (Mod.refl [] w).alloc _, [.slice none 0 0], heap_alloc_new w _, by rw [cntL_no rfl]; rfl, ?_⟩
    intro j hj
    rw [cntL_no rfl] at hj
    obtain rfl : j = 0 := by omega
    rw [piecesL_no rfl]
    exact ⟨none, 0, rfl, Nat.le_refl _, fun w _ => Cells8.nil _ _⟩
  · refine (Tryd.bytes_SplitAfter y ⟨g, 0, none⟩ l.length cap 2 2 l [13, 10] m w rfl rfl h3.1 he.1 (cells_add h3) (cells_add he) h1 (by omega) (by omega) h2 (by omega) hm).mono ?_
    rintro e w' ⟨rfl, q, rfl⟩
    rw [crlf_bytesOf, count_crlf l h3.1]
    refine ⟨rfl, ((Mod.refl [] w).alloc _).trans (mod_drewN _ q), piecesV y cap l, heap_alloc_new w _, piecesV_len y cap l h3.1, ?_⟩
    intro j hj
    obtain ⟨a', cp, k1, k2, k3⟩ := piece_at (y := y) h3.1 h1 j hj
    exact ⟨some a', cp, k1, k2, k3⟩

set_option maxRecDepth 100000 in
set_option maxHeartbeats 4000000 in
theorem send_any (w : World) (a : Option Addr) (n cap : Nat) (l : List Int) (h : In8 w a n cap l) (hM : ML w) (hn : l.length ≤ 20000) :
    Calls Tryd.prog 9 #[.slice a n cap] w (SendP l w) := by
  obtain rfl := h.cells.2
  have kc := fun (w : World) (C : Array Value) (n c : Nat) => Lib.run_convert_bytes_const (P := Tryd.prog) w 22 5 C n c Tryd.underlying22 Tryd.underlying5
  have hm : Mod [] w (w.alloc endO) := (Mod.refl [] w).alloc _
  have hE := heap_alloc_new w endO
  have HS := Lib.hid (split_any _ a _ cap l (h.quiet hm) (hM.quiet hm) w.heap.size hE (by omega))
  have HM := Lib.hid hm
  have HE := Lib.hid hE
  have H := Lib.hid h
  have HL := Lib.hid (upTo_len l)
  have HC := Lib.hid (show cntL l + 1 ≤ 20001 from by have := cntL_le l; omega)
  clear h hM hm hE
  go_enter Tryd.func9, Tryd.ntmps9
  go_wp2_with fail
  refine HS.out.mono ?_
  rintro e w1 ⟨rfl, hm1, V, hV, hP⟩
  have HM1 := Lib.hid (HM.out.trans hm1)
  have HE1 := Lib.hid (hm1.row HE.out (by simp))
  have HV1 := Lib.hid hV
  have HP := Lib.hid hP
  clear hm1 hV hP HS kc
  generalize hP0 : (w.alloc endO).heap.size = P at *
  generalize hE0 : w.heap.size = E at *
  have HB := Lib.hid hE0
  clear hE0 hP0
  generalize hct : cntL l + 1 = N at *
  have HCt := Lib.hid hct
  clear hct
  have hN := HC.out
  go_wp2_with fail
  go_loopw [3, 13] (fun v i wr => ∃ k : Nat, i = .int .i64 k ∧ k ≤ N ∧ Sends E a V P E w wr v (upTo l k)) (fun _ i _ => N - (intOf i).toNat)
  case atStart => exact ⟨0, rfl, Nat.zero_le _, ⟨⟨World.ownsRow_nil _ _ _ _, by simp [Value.ownBlock], Bytes.nil, HM1.out.toBelow (by rw [HB.out]; exact Nat.le_refl _) (by simp)⟩, HV1.out, HE1.out, Nat.le_refl _⟩⟩
  case round =>
    obtain ⟨k, rfl, hk, hs⟩ := hrel
    obtain ⟨wo, rfl⟩ : ∃ wo : World, wo = wr := ⟨_, rfl⟩
    have HSe := Lib.hid hs
    clear hs
    have hlu := HL.out k
    by_cases hlt : k < N
    · obtain ⟨a', cp, hv, hpl, hpc⟩ := HP.out.2 k (by rw [HCt.out]; exact hlt)
      have hcell := blk_cell HSe.out.pcs k
      rw [List.getElem?_toArray, hv] at hcell
      have HW8 := Lib.hid (hpc w H.out.cells.1)
      have hp8 := Cells8.old (by rw [HB.out]; exact HSe.out.sent.below) (hpc w H.out.cells.1)
      have hup := upTo_succ l k (by rw [HCt.out]; exact hlt)
      have hsb := upTo_bytes H.out.cells.1.1 (k + 1)
      rw [hup] at hsb
      obtain ⟨va, vc, rfl, -, -⟩ := owns_shape HSe.out.sent.own
      clear hv hpc
      generalize (piecesL l).getD k [] = p at *
      generalize upTo l k = U at *
      have HUp := Lib.hid hup
      clear hup
      have HP8 := Lib.hid hp8
      clear hp8
      cases p with
      | nil =>
        have HSb := Lib.hid hsb
        clear hsb
        go_wp2_with (at_builtin; refine wpList_append8 _ rfl _ _ 22 22 rfl 5 Tryd.underlying22 info8 _ U rfl HSe.out.sent.own _ _ [] rfl (Src.of8 HP8.out Tryd.underlying22 _ _ rfl) (by simp; omega) (U ++ stuffL []) (by simp [stuffL]) ?_)
        intro v3 w3 hg
        have hs3 := HSe.out.grew (Mod.refl [] _) hg HSb.out
        obtain ⟨a3, n3, c3, rfl⟩ := hg.shape'
        have HS3 := Lib.hid hs3
        clear hs3 hg
        go_wp2_with fail
        go_roundw
        case rel => exact ⟨k + 1, by go_num, hlt, by rw [HUp.out]; exact HS3.out⟩
        case measure => simp [intOf]; omega
      | cons x t =>
        obtain ⟨b0, o0, rfl, hb0⟩ := HW8.out.addr (by simp)
        have HB0 := Lib.hid hb0
        clear hb0
        have hx0 := HP8.out.at 0 (by simp)
        rw [Nat.add_zero] at hx0
        have hx1 : (x :: t).getD 0 0 = x := rfl
        rw [hx1] at hx0
        have hpl' : (x :: t).length ≤ 20000 := by omega
        have HPl := Lib.hid hpl'
        clear hx1 hpl'
        by_cases h46 : x = 46
        · subst h46
          have hst : stuffL (46 :: t) = 46 :: 46 :: t := by simp [stuffL]
          rw [hst] at hsb
          have HSt := Lib.hid hst
          have HSb := Lib.hid hsb
          clear hst hsb
          have hal : Mod [] wo (wo.alloc (.cells #[.int .u8 46] 5)) := (Mod.refl [] wo).alloc _
          have HAl := Lib.hid hal
          clear hal
          go_wp2_with (at_builtin; refine wpList_append8 _ rfl _ _ 22 22 rfl 5 Tryd.underlying22 info8 _ U rfl (HAl.out.owns HSe.out.sent.own (by simp)) _ _ [46] rfl (Src.of8 (cells8_new wo [46] (by unfold Bytes; decide)) Tryd.underlying22 _ _ rfl) (by simp; omega) (U ++ [46]) rfl ?_)
          intro v2 w2 hg2
          have hs2 := HSe.out.grew HAl.out hg2 (HSe.out.sent.byt.append (by unfold Bytes; decide))
          have hp2 := Cells8.mod hg2.mod (HP8.out.mod HAl.out (by simp)) (by
            intro x hx hxb
            cases hx
            have h1 := HSe.out.sent.from_ b0 (by simpa using hxb)
            have h2 := HB0.out
            rw [HB.out] at h2
            omega)
          obtain ⟨a2, c2, rfl, -, -⟩ := owns_shape hs2.sent.own
          have HS2 := Lib.hid hs2
          have HP2 := Lib.hid hp2
          clear hs2 hg2 hp2 hx0
          go_wp2_with (at_builtin; refine wpList_append8 _ rfl _ _ 22 22 rfl 5 Tryd.underlying22 info8 _ (U ++ [46]) rfl HS2.out.sent.own _ _ (46 :: t) rfl (Src.of8 HP2.out Tryd.underlying22 _ _ rfl) (by have := HPl.out; simp at this ⊢; omega) (U ++ 46 :: 46 :: t) (by simp) ?_)
          intro v3 w3 hg
          have hsl : (U ++ [46]).length = U.length + 1 := by simp
          have hs3 := HS2.out.grew (L2 := U ++ 46 :: 46 :: t) (Mod.refl [] _) (by rw [hsl]; exact hg) HSb.out
          clear hsl
          obtain ⟨a3, n3, c3, rfl⟩ := hg.shape'
          have HS3 := Lib.hid hs3
          clear hs3 hg
          go_wp2_with fail
          go_roundw
          case rel => exact ⟨k + 1, by go_num, hlt, by rw [HUp.out, HSt.out]; exact HS3.out⟩
          case measure => simp [intOf]; omega
        · have e46 : (x == 46) = false := by simpa using h46
          have hst : stuffL (x :: t) = x :: t := by simp [stuffL, h46]
          rw [hst] at hsb
          have HSt := Lib.hid hst
          have HSb := Lib.hid hsb
          clear hst hsb h46
          go_wp2_with (at_builtin; refine wpList_append8 _ rfl _ _ 22 22 rfl 5 Tryd.underlying22 info8 _ U rfl HSe.out.sent.own _ _ (x :: t) rfl (Src.of8 HP8.out Tryd.underlying22 _ _ rfl) (by have := HPl.out; omega) (U ++ (x :: t)) rfl ?_)
          intro v3 w3 hg
          have hs3 := HSe.out.grew (Mod.refl [] _) hg HSb.out
          obtain ⟨a3, n3, c3, rfl⟩ := hg.shape'
          have HS3 := Lib.hid hs3
          clear hs3 hg
          go_wp2_with fail
          go_roundw
          case rel => exact ⟨k + 1, by go_num, hlt, by rw [HUp.out, HSt.out]; exact HS3.out⟩
          case measure => simp [intOf]; omega
    · have hke : k = N := by omega
      have hU : upTo l k = bodyL l := by rw [hke, ← HCt.out]; exact upTo_all l
      rw [hU] at hlu
      have hs := HSe.out
      rw [hU] at hs
      have HSf := Lib.hid hs
      have hsb : Bytes (sendL l) := by
        have h1 := upTo_bytes H.out.cells.1.1 k
        rw [hU] at h1
        unfold sendL sfxL
        refine (h1.append ?_).append (by unfold Bytes; decide)
        split
        · unfold Bytes; decide
        · exact Bytes.nil
      have HSnb := Lib.hid hsb
      obtain ⟨va, vc, rfl, -, -⟩ := owns_shape HSf.out.sent.own
      clear hU hs hsb hke HSe
      by_cases hl0 : l = []
      · have HSend := Lib.hid (show sendL l = bodyL l ++ [46, 13, 10] by rw [hl0, sendL_nil, bodyL_nil]; rfl)
        have hl0' : l.length = 0 := by rw [hl0]; rfl
        have hl1 : ¬ 0 < l.length := by omega
        have HL0 := Lib.hid hl0
        clear hl0 hl0'
        go_wp2_with (at_builtin; refine wpList_append8 _ rfl _ _ 22 9 rfl 5 Tryd.underlying22 info8 _ (bodyL l) rfl HSf.out.sent.own _ _ [46, 13, 10] rfl (Src.ofString _ Tryd.underlying9 _) (by simp; omega) (sendL l) (by rw [HSend.out]) ?_)
        intro v5 w5 hg5
        have hs5 := HSf.out.grew (Mod.refl [] _) hg5 HSnb.out
        obtain ⟨a5, n5, c5, rfl⟩ := hg5.shape'
        have HS5 := Lib.hid hs5
        clear hs5 hg5
        go_wp2_with fail
        go_ret
        refine ⟨_, rfl, owns_rebase HS5.out.sent.own (fun k hk => by rw [HB.out]; exact HS5.out.sent.from_ k hk), by rw [HB.out]; exact HS5.out.sent.below⟩
      · have HSx := Lib.hid (suffix_any wo a _ cap l (H.out.mod (Mod.ofBelow (by rw [HB.out]; exact HSf.out.sent.below)) (by simp)) E HSf.out.end_ (by omega) hl0)
        have hl1 : 0 < l.length := List.length_pos_iff.2 hl0
        clear hl0
        generalize hop : openE l = op at *
        cases op
        · have HSend := Lib.hid (show sendL l = bodyL l ++ [46, 13, 10] by simp [sendL, sfxL, hop])
          clear hop
          go_wp2_with fail
          refine HSx.out.mono ?_
          rintro e w' ⟨rfl, rfl⟩
          go_wp2_with (at_builtin; refine wpList_append8 _ rfl _ _ 22 9 rfl 5 Tryd.underlying22 info8 _ (bodyL l) rfl HSf.out.sent.own _ _ [46, 13, 10] rfl (Src.ofString _ Tryd.underlying9 _) (by simp; omega) (sendL l) (by rw [HSend.out]) ?_)
          intro v5 w5 hg5
          have hs5 := HSf.out.grew (Mod.refl [] _) hg5 HSnb.out
          obtain ⟨a5, n5, c5, rfl⟩ := hg5.shape'
          have HS5 := Lib.hid hs5
          clear hs5 hg5
          go_wp2_with fail
          go_ret
          refine ⟨_, rfl, owns_rebase HS5.out.sent.own (fun k hk => by rw [HB.out]; exact HS5.out.sent.from_ k hk), by rw [HB.out]; exact HS5.out.sent.below⟩
        · have HSend := Lib.hid (show sendL l = (bodyL l ++ [13, 10]) ++ [46, 13, 10] by simp [sendL, sfxL, hop])
          clear hop
          go_wp2_with fail
          refine HSx.out.mono ?_
          rintro e w' ⟨rfl, rfl⟩
          go_wp2_with (at_builtin; refine wpList_append8 _ rfl _ _ 22 22 rfl 5 Tryd.underlying22 info8 _ (bodyL l) rfl HSf.out.sent.own _ _ [13, 10] rfl (Src.of8 (end_cells HSf.out.end_) Tryd.underlying22 _ _ rfl) (by simp; omega) (bodyL l ++ [13, 10]) rfl ?_)
          intro v4 w4 hg4
          have hs4 := HSf.out.grew (Mod.refl [] _) hg4 (HSf.out.sent.byt.append (by unfold Bytes; decide))
          obtain ⟨a4, c4, rfl, -, -⟩ := owns_shape hs4.sent.own
          have HS4 := Lib.hid hs4
          clear hs4 hg4
          have hsl : (bodyL l ++ [13, 10]).length = (bodyL l).length + 2 := by simp
          have HSl := Lib.hid hsl
          clear hsl
          go_wp2_with (at_builtin; refine wpList_append8 _ rfl _ _ 22 9 rfl 5 Tryd.underlying22 info8 _ (bodyL l ++ [13, 10]) rfl HS4.out.sent.own _ _ [46, 13, 10] rfl (Src.ofString _ Tryd.underlying9 _) (by simp; omega) (sendL l) (by rw [HSend.out]) ?_)
          intro v5 w5 hg5
          have hs5 := HS4.out.grew (L2 := sendL l) (Mod.refl [] _) (by rw [HSl.out]; exact hg5) HSnb.out
          obtain ⟨a5, n5, c5, rfl⟩ := hg5.shape'
          have HS5 := Lib.hid hs5
          clear hs5 hg5
          go_wp2_with fail
          go_ret
          refine ⟨_, rfl, owns_rebase HS5.out.sent.own (fun k hk => by rw [HB.out]; exact HS5.out.sent.from_ k hk), by rw [HB.out]; exact HS5.out.sent.below⟩
end Go.Proofs.YthcgnnhfkejglaaDoor
