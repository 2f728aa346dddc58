/- HeadFolds: no line of a field that is written has more than 78 bytes, but where it has no blank to be folded at. -/
import Derived.Test.YticdpepkmplfiaaDoorHdBackLaw
namespace Go.Proofs.YticdpepkmplfiaaDoor
open Go.Shelf Go.ChangeShapes Go.WideShapes Go.ChangeAt Go.RowKit
set_option linter.unusedVariables false
set_option linter.unusedSimpArgs false

def LineGood (m : List Int) (nm fr cr : Nat) : Prop := 78 < cr - fr → ∀ k, (if fr = 0 then nm + 2 else fr) < k → k < cr → m.getD k 0 = 32 → 2 ≤ k - fr → solidB ((m.drop k).take (cr - k)) = false
/-- lines, each with its end, up to the end of all -/
inductive Chain (m : List Int) (nm : Nat) : Nat → Prop
  | last (fr : Nat) : fr = m.length → Chain m nm fr
  | line (fr cr : Nat) : fr ≤ cr → cr + 1 < m.length → m.getD cr 0 = 13 → m.getD (cr + 1) 0 = 10 → (∀ j, fr ≤ j → j < cr → m.getD j 0 ≠ 13) → LineGood m nm fr cr → Chain m nm (cr + 2) → Chain m nm fr
theorem getD_mid (a b : List Int) (c : List Int) (j : Nat) (h : j < b.length) : (a ++ (b ++ c)).getD (a.length + j) 0 = b.getD j 0 := by
  rw [← getD_drop, List.drop_left]
  simp [List.getD, List.getElem?_append_left h]
theorem getD_mid0 (a b : List Int) (j : Nat) : (a ++ b).getD (a.length + j) 0 = b.getD j 0 := by rw [← getD_drop, List.drop_left]
theorem chain_of (m : List Int) (nm : Nat) : ∀ (ls : List (List Int)) (pre : List Int), m = pre ++ (flat ls ++ [13, 10]) → (∀ l ∈ ls, ∀ x ∈ l, x ≠ 13) → (∀ l, ls.head? = some l → LineOk (if pre = [] then nm + 3 else 2) l) → (∀ l ∈ ls.tail, LineOk 2 l) → Chain m nm pre.length
  | [], pre, hm, _, _, _ => by
    have hm' : m = pre ++ [13, 10] := hm
    refine .line _ pre.length (Nat.le_refl _) (by rw [hm']; simp) ?_ ?_ (fun j h1 h2 => by omega) (fun h => by omega) (.last _ (by rw [hm']; simp))
    · rw [hm']; exact getD_mid0 pre [13, 10] 0
    · rw [hm']; exact getD_mid0 pre [13, 10] 1
  | l :: tl, pre, hm, h13, hh, ht => by
    have e : m = pre ++ (l ++ (13 :: 10 :: (flat tl ++ [13, 10]))) := by rw [hm, flat_cons]; simp
    have hlen : m.length = pre.length + (l.length + (2 + (flat tl).length + 2)) := by rw [e]; simp; omega
    have gl : ∀ j, j < l.length → m.getD (pre.length + j) 0 = l.getD j 0 := fun j hj => by rw [e]; exact getD_mid _ _ _ _ hj
    have gr : ∀ j, m.getD (pre.length + l.length + j) 0 = (13 :: 10 :: (flat tl ++ [13, 10])).getD j 0 := fun j => by
      rw [e, ← List.append_assoc]
      have := getD_mid0 (pre ++ l) (13 :: 10 :: (flat tl ++ [13, 10])) j
      rwa [List.length_append] at this
    refine .line _ (pre.length + l.length) (by omega) (by omega) (gr 0) (gr 1) ?_ ?_ ?_
    · intro j h1 h2
      have := gl (j - pre.length) (by omega)
      rw [show pre.length + (j - pre.length) = j by omega] at this
      rw [this]
      have hmem : l.getD (j - pre.length) 0 ∈ l := by
        have e : l.getD (j - pre.length) 0 = l[j - pre.length]'(by omega) := by simp [List.getD, show j - pre.length < l.length by omega]
        rw [e]; exact List.getElem_mem _
      exact h13 l (by simp) _ hmem
    · intro h78 k h1 h2 h3 h4
      have hk : k = pre.length + (k - pre.length) := by omega
      have hl := hh l rfl
      have hlo : (if pre = [] then nm + 3 else 2) ≤ k - pre.length := by
        by_cases hp : pre = []
        · rw [if_pos hp]
          rw [hp] at h1 ⊢
          simp at h1 ⊢
          omega
        · rw [if_neg hp]; exact h4
      rw [hk, gl (k - pre.length) (by omega)] at h3
      have := hl (by omega) (k - pre.length) hlo (by omega) h3
      have e2 : (m.drop k).take (pre.length + l.length - k) = l.drop (k - pre.length) := by
        rw [hk, e, ← List.drop_drop, List.drop_left, List.drop_append, List.take_append, List.length_drop, List.take_of_length_le (by rw [List.length_drop]; omega), show pre.length + l.length - (pre.length + (k - pre.length)) - (l.length - (k - pre.length)) = 0 by omega, List.take_zero, List.append_nil]
        rw [show pre.length + (k - pre.length) - pre.length = k - pre.length by omega]
      rw [e2]; exact this
    · have := chain_of m nm tl (pre ++ l ++ [13, 10]) (by rw [e]; simp) (fun x hx => h13 x (List.mem_cons_of_mem _ hx)) (fun x hx => by
        rw [if_neg (by simp)]
        refine ht x ?_
        cases tl with
        | nil => simp at hx
        | cons y ys => simp at hx; subst hx; simp) (fun x hx => ht x (List.mem_of_mem_tail hx))
      simpa [Nat.add_assoc] using this
theorem chain_build {f : Fd} (h : goodF f = true) : Chain (buildN [f] []) f.1.length 0 := by
  obtain ⟨l0, tl, e1, e2, e3, e4, e5, e6⟩ := foldF_ok (lineS f).length (lineS f) (f.1.length + 3) (Nat.le_refl _) (by omega)
  obtain ⟨h1, h2, h3, h4, h5⟩ := (goodF_iff f).1 h
  refine chain_of _ _ (linesN f) [] (by simp [buildN, writtenN]) ?_ ?_ ?_
  · intro l hl x hx
    have hs : x ∈ lineS f := by
      rw [← e2, ← e1]
      exact List.mem_flatten.2 ⟨l, hl, hx⟩
    unfold lineS at hs
    rcases List.mem_append.1 hs with hs | hs
    · exact (nameB_13 (List.all_eq_true.1 h2 x hs)).1
    · simp only [List.mem_cons] at hs
      rcases hs with rfl | rfl | hs
      · decide
      · decide
      · exact (valB_13 (List.all_eq_true.1 h3 x hs)).1
  · intro l hl
    rw [if_pos rfl]
    unfold linesN at hl
    rw [e1] at hl
    simp at hl; subst hl; exact e5
  · intro l hl
    unfold linesN at hl
    rw [e1] at hl
    exact e6 l hl
/-- where the loop over all bytes stands -/
def St (m : List Int) (nm i fr : Nat) : Prop := m.length ≤ i + 1 ∨ ∃ cr, i ≤ cr ∧ fr ≤ cr ∧ cr + 1 < m.length ∧ m.getD cr 0 = 13 ∧ m.getD (cr + 1) 0 = 10 ∧ (∀ j, i ≤ j → j < cr → m.getD j 0 ≠ 13) ∧ LineGood m nm fr cr ∧ Chain m nm (cr + 2)
theorem St.start {m : List Int} {nm : Nat} (h : Chain m nm 0) : St m nm 0 0 := by
  cases h with
  | last _ h => exact .inl (by omega)
  | line _ cr h1 h2 h3 h4 h5 h6 h7 => exact .inr ⟨cr, by omega, h1, h2, h3, h4, h5, h6, h7⟩
theorem St.on {m : List Int} {nm i fr : Nat} (h : St m nm i fr) (hi : i + 1 < m.length) (hn : ¬ (m.getD i 0 = 13 ∧ m.getD (i + 1) 0 = 10)) : St m nm (i + 1) fr := by
  rcases h with h | ⟨cr, h1, h2, h3, h4, h5, h6, h7, h8⟩
  · omega
  · have hne : i ≠ cr := by rintro rfl; exact hn ⟨h4, h5⟩
    exact .inr ⟨cr, by omega, h2, h3, h4, h5, fun j hj => h6 j (by omega), h7, h8⟩
theorem St.hit {m : List Int} {nm i fr : Nat} (h : St m nm i fr) (hi : i + 1 < m.length) (hy : m.getD i 0 = 13 ∧ m.getD (i + 1) 0 = 10) : LineGood m nm fr i ∧ fr ≤ i ∧ St m nm (i + 1) (i + 2) := by
  rcases h with h | ⟨cr, h1, h2, h3, h4, h5, h6, h7, h8⟩
  · omega
  · have he : i = cr := by
      by_cases hc : i < cr
      · exact absurd hy.1 (h6 i (Nat.le_refl _) hc)
      · omega
    subst he
    refine ⟨h7, h2, ?_⟩
    cases h8 with
    | last _ h => exact .inl (by omega)
    | line _ cr k1 k2 k3 k4 k5 k6 k7 =>
      refine .inr ⟨cr, by omega, k1, k2, k3, k4, fun j hj hj2 => ?_, k6, k7⟩
      by_cases hj3 : j = i + 1
      · subst hj3; rw [hy.2]; decide
      · exact k5 j (by omega) hj2
set_option maxHeartbeats 1000000 in
theorem solid_any (w : World) (a : Option Addr) (n cap : Nat) (l : List Int) (h : Cells8 w a l) (hn : n = l.length) (hl : l.length ≤ 1000000) : Calls Tryd.prog 20 #[.slice a n cap] w (BoolP (solidB l) w) := by
  unfold BoolP
  have HC := Lib.hid h
  have HL := Lib.hid hn
  have hn6 : n ≤ 1000000 := by omega
  clear h hn hl
  go_enter Tryd.func20, Tryd.ntmps20
  go_wp2_with fail
  go_loop [3] (fun v => ∃ i : Nat, v = .int .i64 i ∧ i ≤ n ∧ solidB l = solidB (l.drop i)) (fun v => n - (intOf v).toNat)
  case atStart => exact ⟨0, rfl, Nat.zero_le _, by rw [List.drop_zero]⟩
  case round =>
    obtain ⟨i, rfl, hi, he⟩ := hrel
    have HE := Lib.hid he
    clear he
    by_cases hlt : i < n
    · have hil : i < l.length := by rw [← HL.out]; exact hlt
      obtain ⟨b, o, rfl, -⟩ := HC.out.addr (by omega)
      have hcell := HC.out.at i hil
      have HY := Lib.hid (show blankB (l.getD i 0) = false → solidB (l.drop i) = true from fun hb => (solidB_drop _ _).2 ⟨i, Nat.le_refl _, hil, hb⟩)
      have HN := Lib.hid (show blankB (l.getD i 0) = true → solidB (l.drop i) = solidB (l.drop (i + 1)) from fun hb => solidB_step hil hb)
      clear hil
      generalize l.getD i 0 = x at *
      cases h1 : (x != 32) with
      | true =>
        cases h2 : (x != 9) with
        | true =>
          have HZ := Lib.hid (HY.out (by simp only [bne_iff_ne, ne_eq] at h1 h2; simp [blankB, h1, h2]))
          go_wp2_with fail
          go_ret
          exact ⟨ret_bool (by rw [HE.out, HZ.out]), rfl⟩
        | false =>
          have HZ := Lib.hid (HN.out (by simp only [bne_eq_false_iff_eq] at h2; simp [blankB, h2]))
          go_wp2_with fail
          go_round
          case rel => exact ⟨i + 1, by go_num, by omega, by rw [HE.out, HZ.out]⟩
          case measure => simp [intOf]; omega
      | false =>
        have HZ := Lib.hid (HN.out (by simp only [bne_eq_false_iff_eq] at h1; simp [blankB, h1]))
        go_wp2_with fail
        go_round
        case rel => exact ⟨i + 1, by go_num, by omega, by rw [HE.out, HZ.out]⟩
        case measure => simp [intOf]; omega
    · have HZ := Lib.hid (show solidB (l.drop i) = false by rw [List.drop_of_length_le (by rw [← HL.out]; omega)]; rfl)
      go_wp2_with fail
      go_ret
      exact ⟨ret_bool (by rw [HE.out, HZ.out]), rfl⟩
theorem few_one {n v : ByteArray} : fewB [(nums n, nums v)] = (decide (n.size ≤ 1000) && decide (v.size ≤ 1000)) := by
  unfold fewB
  simp only [List.length_singleton, List.all_cons, List.all_nil, Bool.and_true, nums_length]
  rfl
theorem slice8m (w : World) (g o n cap lo hi : Nat) (l : List Int) (h : Cells8 w (some ⟨g, o, none⟩) l) (hn : n = l.length) (hnc : n ≤ cap) (h1 : lo ≤ hi) (h2 : hi ≤ n) : ∃ a2 c2, (∀ W, (Instr.slice 23 (.slice (some ⟨g, o, none⟩) n cap) (some (.int .i64 lo)) (some (.int .i64 hi)) none).run Tryd.prog W = .ok (.slice a2 (hi - lo) c2) W) ∧ Cells8 w a2 ((l.drop lo).take (hi - lo)) := by
  obtain ⟨a2, c2, k1, -, -, k2⟩ := slice8 (P := Tryd.prog) 23 5 Tryd.underlying23 sizeU8 (some ⟨g, o, none⟩) n cap lo hi h1 h2 hnc
  exact ⟨a2, c2, k1, k2 w l hn.symm h⟩
set_option maxRecDepth 100000 in
set_option maxHeartbeats 1000000 in
theorem hfolds_any (w : World) (n v : ByteArray) (hs : n.size ≤ maxLen ∧ v.size ≤ maxLen) (hM : ML w) :
    Calls Tryd.prog 6 #[.agg (fdC n v)] w (LawP w) := by
  unfold LawP
  have hmB : Mod [] w (w.alloc (.cells (fdC n v) 28)) := (Mod.refl [] w).alloc _
  have HN := Lib.hid (heap_alloc_new w (.cells (fdC n v) 28))
  have HAw := Lib.hid (awake_any _ (hM.quiet hmB))
  unfold AwP at HAw
  have HM0 := Lib.hid hmB
  have hmx : maxLen = 9223372036854775807 := rfl
  have HFw := Lib.hid (fun (W : World) => few_any _ (some ⟨W.heap.size, 0, none⟩) 1 1 [(nums n, nums v)] (one_field W n v) rfl (by intro f hf; simp at hf; subst hf; simp only [nums_length]; omega) (by decide))
  unfold BoolP at HFw
  rw [few_one] at HFw
  have HNm := Lib.hid (fun (W : World) (hm : Mod [] (w.alloc (.cells (fdC n v) 28)) W) => (hm.row HN.out (by simp) : W.heap[w.heap.size]? = some (.cells (fdC n v) 28 (0, 0))))
  clear hmB hM
  cases hf : (decide (n.size ≤ 1000) && decide (v.size ≤ 1000)) with
  | false =>
    rw [hf] at HFw
    clear hf
    go_enter Tryd.func6, Tryd.ntmps6
    go_wp2_with fail
    refine HAw.out.mono ?_
    rintro e w1 ⟨rfl, hm1⟩
    have HM1 := Lib.hid (HM0.out.trans hm1)
    have r0 := blk_cell (HNm.out w1 hm1) 0
    have r1 := blk_cell (HNm.out w1 hm1) 1
    clear hm1
    go_wp2_with (go_at_call 8; refine (HFw.out w1).mono ?_; rintro e w2 ⟨rfl, rfl⟩)
    go_ret
    exact ⟨rfl, (HM1.out.alloc _).toBelow (Nat.le_refl _) (by simp)⟩
  | true =>
    have hnv : n.size ≤ 1000 ∧ v.size ≤ 1000 := by simpa using hf
    obtain ⟨hn3, hv3⟩ := hnv
    rw [hf] at HFw
    clear hf
    have HBd := Lib.hid (fun (W : World) => build_any _ (some ⟨W.heap.size, 0, none⟩) 1 1 [(nums n, nums v)] (one_field W n v) rfl ⟨by simp, by intro f hf; simp at hf; subst hf; simp only [nums_length]; exact ⟨hn3, hv3⟩⟩ none 0 0 [] (Cells8.nil _ _) rfl (by decide))
    unfold BuildP at HBd
    by_cases hg : [(nums n, nums v)].all goodF = true
    · have hr : buildR [(nums n, nums v)] [] = (buildN [(nums n, nums v)] [], 0) := if_pos hg
      have hgd : goodF (nums n, nums v) = true := by simpa using hg
      have HCh := Lib.hid (chain_build hgd)
      have HLen := Lib.hid (buildN_len (fs := [(nums n, nums v)]) (body := []) (by intro f hf; simp at hf; subst hf; exact hgd) (by simp) (by simp))
      rw [hr] at HBd
      simp only [nums_length] at HCh
      generalize buildN [(nums n, nums v)] [] = m at *
      clear hg hr hgd
      go_enter Tryd.func6, Tryd.ntmps6
      go_wp2_with fail
      refine HAw.out.mono ?_
      rintro e w1 ⟨rfl, hm1⟩
      have HM1 := Lib.hid (HM0.out.trans hm1)
      have HMb := Lib.hid hm1
      have r0 := blk_cell (HNm.out w1 hm1) 0
      have r1 := blk_cell (HNm.out w1 hm1) 1
      clear hm1
      have hma : Mod [] w1 (w1.alloc (.cells (fdC n v) 28)) := (Mod.refl [] w1).alloc _
      have HMc := Lib.hid hma
      have s0 := blk_cell (hma.row (HNm.out w1 HMb.out) (by simp)) 0
      have s1 := blk_cell (hma.row (HNm.out w1 HMb.out) (by simp)) 1
      clear hma
      have hsz : (w1.alloc (.cells (fdC n v) 28)).heap.size = w1.heap.size + 1 := by simp
      have hbd := HBd.out (w1.alloc (.cells (fdC n v) 28))
      rw [hsz] at hbd
      have HBd2 := Lib.hid hbd
      clear hsz hbd
      go_wp2_with (go_at_call 8; refine (HFw.out w1).mono ?_; rintro e w2 ⟨rfl, rfl⟩)
      refine HBd2.out.mono ?_
      rintro e w3 ⟨ma, mn, mc, rfl, ho3⟩
      have hm3 : Mod [] w1 w3 := HMc.out.trans (((Mod.refl [] _).alloc _).trans (Mod.ofBelow ho3.below))
      have HM3 := Lib.hid (HM1.out.trans hm3)
      have HB3 := Lib.hid ho3.bin
      have hmn := ho3.bin.len
      have hmle := ho3.bin.le
      have HML := Lib.hid hmn
      have hmn6 : mn ≤ 100000 := by have := HLen.out; omega
      clear r0 r1 s0 s1
      have k0 := blk_cell (HNm.out w3 (HMb.out.trans hm3)) 0
      have k1 := blk_cell (HNm.out w3 (HMb.out.trans hm3)) 1
      clear ho3 hm3 hmn HFw HBd
      go_wp2_with fail
      go_loopg [5, 6] mn (fun g x y wx => w3 = wx ∧ ∃ fr i : Nat, x = .int .i64 fr ∧ y = .int .i64 i ∧ fr ≤ i + 1 ∧ i ≤ mn + 1 ∧ g = mn - i ∧ St m n.size i fr)
      case atStart => exact ⟨rfl, 0, 0, rfl, rfl, by omega, by omega, rfl, St.start HCh.out⟩
      case round =>
        obtain ⟨rfl, fr, i, rfl, rfl, hfi, him, rfl, hst⟩ := hrel
        have HSt := Lib.hid hst
        clear hst
        by_cases hlt : i + 1 < mn
        · have hltI : (i : Int) + 1 < (mn : Int) := by omega
          have hil : i + 1 < m.length := by rw [← HML.out]; exact hlt
          obtain ⟨b, o, rfl, -⟩ := HB3.out.cells.addr (by omega)
          have c0 := HB3.out.cells.at i (by omega)
          have c1 := HB3.out.cells.at (i + 1) hil
          have hix := ixa (P := Tryd.prog) 23 5 Tryd.underlying23 1 sizeU8 (some ⟨b, o, none⟩) b o mn mc i rfl (by omega)
          have hix1 := ixa (P := Tryd.prog) 23 5 Tryd.underlying23 1 sizeU8 (some ⟨b, o, none⟩) b o mn mc (i + 1) rfl hlt
          rw [show ((i + 1 : Nat) : Int) = (i : Int) + 1 by push_cast; rfl, Nat.mul_one] at hix1
          rw [Nat.mul_one] at hix
          have HOn := Lib.hid (fun h => HSt.out.on (by omega : i + 1 < m.length) h)
          have HHit := Lib.hid (fun h => HSt.out.hit (by omega : i + 1 < m.length) h)
          clear hil
          generalize m.getD i 0 = x0 at *
          generalize m.getD (i + 1) 0 = x1 at *
          by_cases hcr : x0 = 13 ∧ x1 = 10
          · have z13 : (x0 != 13) = false := by rw [bne_eq_false_iff_eq]; exact hcr.1
            have z10 : (x1 != 10) = false := by rw [bne_eq_false_iff_eq]; exact hcr.2
            obtain ⟨hgood, hfr, hst2⟩ := HHit.out hcr
            have HGd := Lib.hid hgood
            have HS2 := Lib.hid hst2
            clear hcr hgood hst2
            by_cases h78 : 78 < i - fr
            · have h78I : decide ((78 : Int) < (i : Int) - (fr : Int)) = true := by rw [decide_eq_true_iff]; omega
              obtain ⟨st, hst⟩ : ∃ st, (if fr = 0 then n.size + 2 else fr) = st := ⟨_, rfl⟩
              have HG2 := Lib.hid (HGd.out h78)
              rw [hst] at HG2
              have hx : (((fr : Int) == 0) = true ∧ st = n.size + 2) ∨ (((fr : Int) == 0) = false ∧ st = fr) := by
                by_cases h0 : fr = 0
                · rw [if_pos h0] at hst
                  exact .inl ⟨by rw [beq_iff_eq]; omega, hst.symm⟩
                · rw [if_neg h0] at hst
                  exact .inr ⟨by rw [beq_eq_false_iff_ne]; omega, hst.symm⟩
              have hst6 : fr ≤ st ∧ st ≤ 200000 := by
                rcases hx with ⟨h1, h2⟩ | ⟨h1, h2⟩
                · have : (fr : Int) = 0 := beq_iff_eq.1 h1
                  omega
                · omega
              obtain ⟨hst1, hst6⟩ := hst6
              clear hst
              have hi6 : i ≤ 100001 := by omega
              rcases hx with ⟨zf, hst⟩ | ⟨zf, hst⟩
              all_goals
                have HSq := Lib.hid hst
                clear hst
                go_wp2_with fail
                go_loopg [8] (300000 - (st + 1)) (fun g y wx => w3 = wx ∧ ∃ k : Nat, y = .int .i64 k ∧ st < k ∧ k ≤ 300000 ∧ g = 300000 - k)
                case atStart => exact ⟨rfl, st + 1, by rw [HSq.out]; go_num, by omega, by omega, rfl⟩
                case round =>
                  obtain ⟨rfl, k, rfl, hsk, hk3, rfl⟩ := hrel
                  by_cases hki : k < i
                  · have hkm : k < m.length := by rw [← HML.out]; omega
                    have ck := HB3.out.cells.at k hkm
                    have hixk := ixa (P := Tryd.prog) 23 5 Tryd.underlying23 1 sizeU8 (some ⟨b, o, none⟩) b o mn mc k rfl (by omega)
                    rw [Nat.mul_one] at hixk
                    have HGk := Lib.hid (HG2.out k hsk hki)
                    generalize m.getD k 0 = c at *
                    clear hkm
                    by_cases h32 : c = 32
                    · have z32 : (c == 32) = true := by rw [beq_iff_eq]; exact h32
                      by_cases h2 : 2 ≤ k - fr
                      · have h2I : decide ((2 : Int) ≤ (k : Int) - (fr : Int)) = true := by rw [decide_eq_true_iff]; omega
                        have hsol := HGk.out h32 h2
                        obtain ⟨a2, c2, hsl, hc2⟩ := slice8m w3 b o mn mc k i m HB3.out.cells HML.out hmle (by omega) (by omega)
                        have HSl := Lib.hid (solid_any w3 a2 (i - k) c2 _ hc2 (by rw [List.length_take, List.length_drop, ← HML.out]; omega) (by rw [List.length_take, List.length_drop, ← HML.out]; omega))
                        unfold BoolP at HSl
                        rw [hsol] at HSl
                        clear h32 hsol hc2
                        go_wp2_with (go_at_call 20; refine HSl.out.mono ?_; rintro e w9 ⟨rfl, rfl⟩)
                        go_roundg (300000 - (k + 1))
                        case measure => omega
                        case rel => exact ⟨rfl, k + 1, by go_num, by omega, by omega, rfl⟩
                      · have h2I : decide ((2 : Int) ≤ (k : Int) - (fr : Int)) = false := by rw [decide_eq_false_iff_not]; omega
                        clear h32
                        go_wp2_with fail
                        go_roundg (300000 - (k + 1))
                        case measure => omega
                        case rel => exact ⟨rfl, k + 1, by go_num, by omega, by omega, rfl⟩
                    · have z32 : (c == 32) = false := by rw [beq_eq_false_iff_ne]; exact h32
                      clear h32
                      go_wp2_with fail
                      go_roundg (300000 - (k + 1))
                      case measure => omega
                      case rel => exact ⟨rfl, k + 1, by go_num, by omega, by omega, rfl⟩
                  · go_wp2_with fail
                    go_roundg (mn - (i + 1))
                    case measure => omega
                    case rel => exact ⟨rfl, i + 2, i + 1, by go_num, by go_num, by omega, by omega, rfl, HS2.out⟩
            · have h78I : decide ((78 : Int) < (i : Int) - (fr : Int)) = false := by rw [decide_eq_false_iff_not]; omega
              go_wp2_with fail
              go_roundg (mn - (i + 1))
              case measure => omega
              case rel => exact ⟨rfl, i + 2, i + 1, by go_num, by go_num, by omega, by omega, rfl, HS2.out⟩
          · have HS2 := Lib.hid (HOn.out hcr)
            have hx : (x0 != 13) = true ∨ ((x0 != 13) = false ∧ (x1 != 10) = true) := by
              by_cases h1 : x0 = 13
              · exact .inr ⟨by rw [bne_eq_false_iff_eq]; exact h1, by rw [bne_iff_ne]; exact fun h => hcr ⟨h1, h⟩⟩
              · exact .inl (by rw [bne_iff_ne]; exact h1)
            clear hcr
            rcases hx with z13 | ⟨z13, z10⟩
            all_goals
              go_wp2_with fail
              go_roundg (mn - (i + 1))
              case measure => omega
              case rel => exact ⟨rfl, fr, i + 1, rfl, by go_num, by omega, by omega, rfl, HS2.out⟩
        · have hltI : ¬ ((i : Int) + 1 < (mn : Int)) := by omega
          go_wp2_with fail
          go_ret
          exact ⟨rfl, HM3.out.toBelow (Nat.le_refl _) (by simp)⟩
    · have hr : buildR [(nums n, nums v)] [] = ([], 3) := if_neg hg
      rw [hr] at HBd
      clear hg hr
      go_enter Tryd.func6, Tryd.ntmps6
      go_wp2_with fail
      refine HAw.out.mono ?_
      rintro e w1 ⟨rfl, hm1⟩
      have HM1 := Lib.hid (HM0.out.trans hm1)
      have HMb := Lib.hid hm1
      have r0 := blk_cell (HNm.out w1 hm1) 0
      have r1 := blk_cell (HNm.out w1 hm1) 1
      clear hm1
      have hma : Mod [] w1 (w1.alloc (.cells (fdC n v) 28)) := (Mod.refl [] w1).alloc _
      have HMc := Lib.hid hma
      have s0 := blk_cell (hma.row (HNm.out w1 HMb.out) (by simp)) 0
      have s1 := blk_cell (hma.row (HNm.out w1 HMb.out) (by simp)) 1
      clear hma
      have hsz : (w1.alloc (.cells (fdC n v) 28)).heap.size = w1.heap.size + 1 := by simp
      have hbd := HBd.out (w1.alloc (.cells (fdC n v) 28))
      rw [hsz] at hbd
      have HBd2 := Lib.hid hbd
      clear hsz hbd
      go_wp2_with (first | (go_at_call 8; refine (HFw.out w1).mono ?_; rintro e w2 ⟨rfl, rfl⟩) | (go_at_call 11; refine HBd2.out.mono ?_; rintro e w3 ⟨ma, mn, mc, rfl, ho3⟩; have HM3 := Lib.hid (HM1.out.trans (HMc.out.trans (((Mod.refl [] _).alloc _).trans (Mod.ofBelow ho3.below)))); clear ho3))
      go_ret
      exact ⟨rfl, HM3.out.toBelow (Nat.le_refl _) (by simp)⟩
end Go.Proofs.YticdpepkmplfiaaDoor
