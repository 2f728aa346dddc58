/- small, lowered. -/
import Derived.Test.YtleldadpbpkkmaaAdR
namespace Go.Proofs.Ytleldadpbpkkmaa
open Go.Shelf Go.ChangeShapes Go.WideShapes Go.ChangeAt Go.RowKit
set_option linter.unusedVariables false
set_option linter.unusedSimpArgs false

/-- a row of bytes that a text was turned into -/
def RowF (w : World) (g cap : Nat) (l : List Int) : Prop := ∃ cur, w.heap[g]? = some (.cells cur 5 (cap, cap + 1)) ∧ cur.size = cap ∧ l.length ≤ cap ∧ cur.toList.take l.length = u8s l
theorem RowF.cell {w : World} {g cap : Nat} {l : List Int} (h : RowF w g cap l) (i : Nat) (hi : i < l.length) : w.cell? ⟨g, i, none⟩ = some (.int .u8 (l.getD i 0)) := by
  obtain ⟨cur, h1, h2, h3, h4⟩ := h
  rw [cell_of_row w g i cur _ _ h1]
  have h5 : cur[i]? = (cur.toList.take l.length)[i]? := by rw [List.getElem?_take, if_pos hi]; simp
  rw [h5, h4]
  simp [List.getD, hi]
theorem RowF.free {w : World} {g cap : Nat} {l : List Int} (h : RowF w g cap l) (i : Nat) (hi : i < l.length) : w.frozen? ⟨g, i, none⟩ = false := by
  obtain ⟨cur, h1, h2, h3, h4⟩ := h
  simp [World.frozen?, h1]
  omega
theorem RowF.set {w : World} {g cap : Nat} {l : List Int} (h : RowF w g cap l) (i : Nat) (x : Int) : RowF (w.setCell ⟨g, i, none⟩ (.int .u8 x)) g cap (l.set i x) := by
  obtain ⟨cur, h1, h2, h3, h4⟩ := h
  refine ⟨cur.setIfInBounds i (.int .u8 x), by simp [World.setCell, Array.getElem?_modify, h1], by simpa using h2, by simpa using h3, ?_⟩
  rw [Array.toList_setIfInBounds, List.length_set, List.take_set, h4, u8s_set]
theorem RowF.mod {F : List Nat} {w w' : World} {g cap : Nat} {l : List Int} (h : RowF w g cap l) (hm : Mod F w w') (hF : g ∉ F) : RowF w' g cap l := by
  obtain ⟨cur, h1, h2⟩ := h
  exact ⟨cur, hm.row h1 hF, h2⟩
theorem RowF.cells8 {w : World} {g cap : Nat} {l : List Int} (h : RowF w g cap l) (hb : Bytes l) : Cells8 w (some ⟨g, 0, none⟩) l :=
  ⟨hb, .inr ⟨g, 0, rfl, fun i hi => by rw [Nat.zero_add]; exact h.cell i hi⟩⟩
theorem conv_row (w : World) (s : ByteArray) : ∃ cap w', (convert 9 66 (.string s)).run Try.prog w = .ok (.slice (some ⟨w.heap.size, 0, none⟩) s.size cap) w' ∧ RowF w' w.heap.size cap (nums s) ∧ Mod [] w w' ∧ w'.heap.size = w.heap.size + 1 ∧ s.size ≤ cap := by
  refine ⟨_, _, run_bytes_of_string w 9 66 5 s Try.underlying9 Try.underlying66 Try.underlying5, ?_, ((Mod.refl [] w).drew).alloc _, by simp, grownCap_ge w s.size 0 _⟩
  have hcap := grownCap_ge w s.size 0 5
  have hsz : s.data.size = s.size := rfl
  have hbs : (bytesRow s (grownCap w s.size 0 5)).size = grownCap w s.size 0 5 := by simp [bytesRow]; omega
  have hrow := heap_alloc_new w.drew (.cells (bytesRow s (grownCap w s.size 0 5)) 5 ((bytesRow s (grownCap w s.size 0 5)).size, (bytesRow s (grownCap w s.size 0 5)).size + 1))
  refine ⟨bytesRow s (grownCap w s.size 0 5), ?_, hbs, by rw [nums_length]; exact hcap, ?_⟩
  · have e : (w.drew).heap.size = w.heap.size := rfl
    rw [e] at hrow
    rw [hrow, hbs]
  · rw [nums_length]
    have : s.size = (s.data.map (fun b => Value.int .u8 (b.toNat : Int))).toList.length := by simp
    unfold bytesRow
    rw [Array.toList_append, this, List.take_left]
    simp [nums]

/-- the first k bytes small -/
def lowK (l : List Int) (k : Nat) : List Int := (l.take k).map lowC ++ l.drop k
theorem lowK_len (l : List Int) (k : Nat) (hk : k ≤ l.length) : (lowK l k).length = l.length := by simp [lowK]; omega
theorem lowK_getD {l : List Int} {k : Nat} (h : k < l.length) : (lowK l k).getD k 0 = l.getD k 0 := by
  unfold lowK
  simp only [List.getD]
  rw [List.getElem?_append_right (by simp; omega)]
  simp [show min k l.length = k by omega]
theorem lowK_step {l : List Int} {k : Nat} (h : k < l.length) : lowK l (k + 1) = (lowK l k).set k (lowC (l.getD k 0)) := by
  have hl : ((l.take k).map lowC).length = k := by simp; omega
  unfold lowK
  rw [take_succ_at l k h, List.map_append, List.set_append_right k _ (by omega), hl, Nat.sub_self]
  rw [show l.drop k = l.getD k 0 :: l.drop (k + 1) from drop_at h]
  simp
theorem lowK_same {l : List Int} {k : Nat} (h : k < l.length) (hc : lowC (l.getD k 0) = l.getD k 0) : lowK l (k + 1) = lowK l k := by
  rw [lowK_step h, hc, ← lowK_getD h]
  have hl : k < (lowK l k).length := by rw [lowK_len l k (by omega)]; exact h
  simp [List.getD, hl]
theorem lowC_bytes {c : Int} (h : 0 ≤ c ∧ c < 256) : 0 ≤ lowC c ∧ lowC c < 256 := by unfold lowC; split <;> omega
theorem lowL_bytes {l : List Int} (h : Bytes l) : Bytes (lowL l) := by
  intro x hx
  obtain ⟨c, hc, rfl⟩ := List.mem_map.1 hx
  exact lowC_bytes (h c hc)

set_option maxHeartbeats 4000000 in
theorem small_any (s : ByteArray) (w : World) (hs : s.size ≤ 100000) :
    Calls Try.prog 57 #[.string s] w (StrP (lowL (nums s)) w) := by
  have HL := Lib.hid (nums_length s)
  go_enter Try.func57, Try.ntmps57
  go_wp2_with fail
  refine (span_any _ _ _).mono ?_
  rintro e w1 ⟨v, rfl, hk, hb⟩
  obtain ⟨f, caps, rfl⟩ := hk.shape
  obtain ⟨cap, w2, hcv, hrow, hm2, hz2, hcap⟩ := conv_row w1 s
  have HK := Lib.hid (hk.quiet hm2)
  have HB := Lib.hid (hb.trans (hm2.toBelow (B := w.heap.size) hb.size (by simp)))
  have hsz1 := hb.size
  have HRow := Lib.hid hrow
  clear hk hb hrow hm2
  go_wp2_with fail
  clear hcv
  generalize hg : w1.heap.size = g at *
  clear hg
  have hz2' : g < w2.heap.size := by omega
  clear hz2
  go_loopw [12] (fun i wr => ∃ k : Nat, i = .int .i64 k ∧ k ≤ s.size ∧ RowF wr g cap (lowK (nums s) k) ∧ Mod [g] w2 wr) (fun i _ => (s.size - intOf i).toNat)
  case atStart => exact ⟨0, rfl, Nat.zero_le _, by simpa [lowK] using HRow.out, Mod.refl _ _⟩
  case round =>
    obtain ⟨k, rfl, hks, hrow, hm⟩ := hrel
    have HR := Lib.hid hrow
    have HM := Lib.hid hm
    clear hrow hm
    by_cases hlt : k < s.size
    · have hkl : k < (nums s).length := by rw [HL.out]; exact hlt
      have hcell := HR.out.cell k (by rw [lowK_len _ _ (by omega)]; exact hkl)
      have hfree := HR.out.free k (by rw [lowK_len _ _ (by omega)]; exact hkl)
      rw [lowK_getD hkl] at hcell
      have hbd := (nums_bytes s).getD k
      have HStep := Lib.hid (lowK_step hkl)
      have HSame := Lib.hid (fun h => lowK_same (l := nums s) (k := k) hkl h)
      obtain ⟨f', caps', S, hv, hent, hS, hW, hC⟩ := HK.out.mod HM.out (by intro x hx; simp at hx; subst hx; right; exact Nat.le_refl _)
      injection hv with hv1 hv2 hv3
      injection hv1 with hv1
      subst hv1
      subst hv3
      have hC1 := hC wr hS ((nums s).getD k 0) hbd.1 hbd.2
      have hent' : ∀ args w, (callFunc f args).run Try.prog w = .ok (.enter f args) w := hent
      generalize hcc : (nums s).getD k 0 = c at *
      have HC := Lib.hid hC1
      clear hent hS hW hC hC1 hv2 hkl hcc
      by_cases hce : 65 ≤ c ∧ c ≤ 90
      · have hd : spanB 65 90 c = true := by simp [spanB, hce]
        rw [hd] at HC
        have HLo := Lib.hid (show lowC c = c - 65 + 97 by unfold lowC; rw [if_pos hce]; omega)
        obtain ⟨hc1, hc2⟩ := hce
        clear hd
        go_wp2_with ((with_reducible refine HC.out.mono ?_); rintro e w3 ⟨rfl, rfl⟩)
        clear hent' hcell hfree
        go_roundw
        case rel =>
          refine ⟨k + 1, by go_num, by omega, ?_, HM.out.setCell (p := ⟨g, k, none⟩) (Or.inl (by simp)) _⟩
          rw [HStep.out, HLo.out]
          exact HR.out.set k _
        case measure => simp [intOf]; omega
      · have hd : spanB 65 90 c = false := by
          unfold spanB
          rw [Bool.and_eq_false_iff, decide_eq_false_iff_not, decide_eq_false_iff_not]
          omega
        rw [hd] at HC
        have HLo := Lib.hid (show lowC c = c by unfold lowC; rw [if_neg hce])
        clear hd hce
        go_wp2_with ((with_reducible refine HC.out.mono ?_); rintro e w3 ⟨rfl, rfl⟩)
        clear hent' hcell hfree
        go_roundw
        case rel => exact ⟨k + 1, by go_num, by omega, by rw [HSame.out HLo.out]; exact HR.out, HM.out⟩
        case measure => simp [intOf]; omega
    · have hfin : lowK (nums s) k = lowL (nums s) := by
        unfold lowK lowL
        rw [List.take_of_length_le (by rw [HL.out]; omega), List.drop_eq_nil_of_le (by rw [HL.out]; omega), List.append_nil]
      have HF := Lib.hid hfin
      have hr2 := HR.out
      rw [hfin] at hr2
      have hll : (lowL (nums s)).length = s.size := by unfold lowL; rw [List.length_map, HL.out]
      have F := run_str (P := Try.prog) (hr2.cells8 (lowL_bytes (nums_bytes s))) 66 9 5 s.size cap Try.underlying66 Try.underlying5 Try.underlying9 hll.symm
      clear hfin hr2 hll
      go_wp2_with fail
      go_ret
      exact ⟨rfl, HB.out.trans (HM.out.toBelow (by omega) (by intro x hx; simp at hx; omega))⟩
end Go.Proofs.Ytleldadpbpkkmaa
