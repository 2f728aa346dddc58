/- Replies: three digits; the reference's Bytes. -/
import Derived.Test.YtdedolbaldfmbaaDoorRpG
import Derived.Test.YtdedolbaldfmbaaDoorOw8
namespace Go.Proofs.YtdedolbaldfmbaaDoor
open Go.Shelf Go.ChangeShapes Go.WideShapes Go.ChangeAt Go.RowKit
set_option linter.unusedVariables false
set_option linter.unusedSimpArgs false

theorem dig3_b {m : Nat} (h : m < 1000) : Bytes (dig3 m) := fun x hx => by have := dig3_bytes h x hx; omega
set_option maxRecDepth 100000 in
theorem three_str (x y z : Int) (hb : Bytes [x, y, z]) (w : World) : (convert 27 9 (.slice (some ⟨w.heap.size, 0, none⟩) 3 3)).run Tryd.prog (w.alloc (.cells #[.int .u8 x, .int .u8 y, .int .u8 z] 5)) = .ok (.string (strOfNums [x, y, z])) (w.alloc (.cells #[.int .u8 x, .int .u8 y, .int .u8 z] 5)) :=
  run_str (P := Tryd.prog) (l := [x, y, z]) ⟨hb, .inr ⟨_, 0, rfl, fun i hi => by
    rw [Nat.zero_add, blk_cell (heap_alloc_new w _) i]
    have h3 : i = 0 ∨ i = 1 ∨ i = 2 := by simp at hi; omega
    rcases h3 with rfl | rfl | rfl <;> rfl⟩⟩ 27 9 5 3 3 Tryd.underlying27 Tryd.underlying5 Tryd.underlying9 rfl
theorem rthree_any (m : Nat) (w : World) (hm : m < 1000) : Calls Tryd.prog 22 #[.int .i64 m] w fun e w' => e = .returned (.string (strOfNums (dig3 m))) ∧ Mod [] w w' := by
  have hb : Bytes [48 + (m : Int) / 100, 48 + (m : Int) / 10 % 10, 48 + (m : Int) % 10] := by
    intro x hx
    simp at hx
    rcases hx with rfl | rfl | rfl <;> omega
  have F := three_str _ _ _ hb w
  have HM := Lib.hid (show Mod [] w (w.alloc (.cells #[.int .u8 (48 + (m : Int) / 100), .int .u8 (48 + (m : Int) / 10 % 10), .int .u8 (48 + (m : Int) % 10)] 5)) from (Mod.refl [] w).alloc _)
  clear hb
  have hmI : (m : Int) < 1000 := by omega
  go_enter Tryd.func22, Tryd.ntmps22
  go_wp2_with fail
  go_ret
  exact ⟨rfl, HM.out⟩
theorem sent_bytes {m : Nat} {E : List Int} (hm : m < 1000) (hE : Bytes E) : ∀ (L : List (List Int)), (∀ l ∈ L, Bytes l) → Bytes (sentL m E L)
  | [], _ => Bytes.nil
  | t :: ts, h => by
    rw [sentL]
    refine Bytes.append ?_ (sent_bytes hm hE ts (fun l hl => h l (List.mem_cons_of_mem _ hl)))
    unfold lineL enhL
    refine (dig3_b hm).append ?_
    intro x hx
    simp only [List.mem_cons, List.mem_append] at hx
    rcases hx with rfl | hx | hx | hx
    · split <;> omega
    · split at hx
      · cases hx
      · rcases List.mem_append.1 hx with h1 | h1
        · exact hE x h1
        · simp at h1; omega
    · exact h t (by simp) x hx
    · have : x = 13 ∨ x = 10 := by simpa using hx
      omega
theorem sent_step {m : Nat} {E : List Int} {L : List (List Int)} {k : Nat} (hk : k < L.length) : sentL m E (L.drop k) = lineL m E (decide (k + 1 < L.length)) (L.getD k []) ++ sentL m E (L.drop (k + 1)) := by
  rw [dropL_at hk, sentL]
  congr 2
  rw [Bool.eq_iff_iff]
  simp
/-- what Bytes answers -/
def sentQ (r : RepD) : List Int := if goodB r then sentR r else []
def SentP (r : RepD) (w : World) (e : Ending) (w' : World) : Prop := ∃ a n cap, e = .returned (.tuple #[.slice a n cap, .int .i64 (if goodB r then 0 else 3)]) ∧ n = (sentQ r).length ∧ Cells8 w' a (sentQ r) ∧ Mod [] w w'
theorem sent_no {r : RepD} {w w' : World} {a : Option Addr} (h : goodB r = false) (hm : Mod [] w w') : SentP r w (.returned (.tuple #[.slice none 0 0, .int .i64 3])) w' := by
  unfold SentP sentQ
  rw [h]
  exact ⟨none, 0, 0, rfl, rfl, Cells8.nil _ _, hm⟩
theorem sent_yes {r : RepD} {w w' : World} {a : Option Addr} {n cap : Nat} (h : goodB r = true) (hn : n = (sentR r).length) (hc : Cells8 w' a (sentR r)) (hm : Mod [] w w') : SentP r w (.returned (.tuple #[.slice a n cap, .int .i64 0])) w' := by
  unfold SentP sentQ
  rw [h]
  exact ⟨a, n, cap, rfl, hn, hc, hm⟩
theorem lit_dash : ({ data := #[45] } : ByteArray) = strOfNums [45] := by rfl
theorem lit_blank : ({ data := #[32] } : ByteArray) = strOfNums [32] := by rfl
theorem lit_crlf : ({ data := #[13, 10] } : ByteArray) = strOfNums [13, 10] := by rfl
theorem lit_none : ({ data := #[] } : ByteArray) = strOfNums [] := by rfl
theorem add_nums {P : Program} (x y : List Int) (hx : x.length ≤ 1000000) (hy : y.length ≤ 1000000) : ∀ W, (Op.stringOp .add (strOfNums x) (strOfNums y)).run P W = .ok (.string (strOfNums (x ++ y))) W := by
  have := add_strP (P := P) (strOfNums x) (strOfNums y) (by rw [size_strOfNums]; exact hx) (by rw [size_strOfNums]; exact hy)
  rwa [strOfNums_append] at this
theorem sent_len {m : Nat} {E : List Int} (hE : E.length ≤ 1000) : ∀ (L : List (List Int)), (∀ l ∈ L, l.length ≤ 1000) → (sentL m E L).length ≤ L.length * 2010
  | [], _ => by simp [sentL]
  | t :: ts, h => by
    have ih := sent_len (m := m) hE ts (fun l hl => h l (List.mem_cons_of_mem _ hl))
    have ht := h t (by simp)
    have he : (enhL E).length ≤ 1001 := by unfold enhL; split <;> simp; omega
    have h2 : (lineL m E (!ts.isEmpty) t).length ≤ 2010 := by
      unfold lineL; simp only [List.length_append, List.length_cons, List.length_nil, dig3_len]; omega
    rw [sentL, List.length_append, List.length_cons]
    omega
theorem sentL_end (m : Nat) (E : List Int) (L : List (List Int)) (k : Nat) (h : L.length ≤ k) : sentL m E (L.drop k) = [] := by rw [List.drop_eq_nil_of_le h]; rfl
theorem add_to {P : Program} (x y z : List Int) (hz : z = x ++ y) (h : x.length + y.length ≤ 1000000) : ∀ W, (Op.stringOp .add (strOfNums x) (strOfNums y)).run P W = .ok (.string (strOfNums z)) W := by
  rw [hz]; exact add_nums x y (by omega) (by omega)
theorem app_len {x y z : List Int} (hz : z = x ++ y) : z.length = x.length + y.length := by rw [hz, List.length_append]
set_option maxHeartbeats 4000000 in
theorem rbytes_any (w : World) (c : Int) (e : ByteArray) (a : Option Addr) (n cap : Nat) (L : List (List Int)) (h : CellsS w a L) (hn : n = L.length) (he : e.size ≤ 1000) (hl : ∀ l ∈ L, l.length ≤ 1000) (hL : L.length ≤ 100) :
    Calls Tryd.prog 9 #[.agg (repC c e a n cap)] w (SentP ⟨c, nums e, L⟩ w) := by
  subst hn
  have HM0 := Lib.hid (show Mod [] w (w.alloc (.cells (repC c e a L.length cap) 24)) from (Mod.refl [] w).alloc _)
  have HN0 := Lib.hid (heap_alloc_new w (.cells (repC c e a L.length cap) 24))
  have HG := Lib.hid (rgood_any _ c e a L.length cap L (h.quiet HM0.out) rfl (by omega) (fun l hl' => by have := hl l hl'; omega) (by omega))
  unfold BoolP at HG
  cases hg : goodB ⟨c, nums e, L⟩
  · rw [hg] at HG
    have HG0 := Lib.hid hg
    clear hg
    go_enter Tryd.func9, Tryd.ntmps9
    go_wp2_with (go_at_call 14; refine HG.out.mono ?_; rintro e w1 ⟨rfl, hm1⟩; have HM1 := Lib.hid (HM0.out.trans hm1); clear hm1)
    go_ret2
    exact sent_no (a := none) HG0.out HM1.out
  · rw [hg] at HG
    have HG0 := Lib.hid hg
    obtain ⟨m, rfl⟩ : ∃ m : Nat, c = (m : Int) := ⟨c.toNat, ((code_nat hg).1).symm⟩
    have hmm : m < 1000 := by have := code_nat hg; simp at this; omega
    have HSR := Lib.hid (show sentR ⟨(m : Int), nums e, L⟩ = sentL m (nums e) L from rfl)
    clear hg
    go_enter Tryd.func9, Tryd.ntmps9
    go_wp2_with (go_at_call 14; refine HG.out.mono ?_; rintro e w1 ⟨rfl, hm1⟩; have HM1 := Lib.hid (HM0.out.trans hm1); have HN1 := Lib.hid (hm1.row HN0.out (by simp)); clear hm1)
    have HC := Lib.hid (h.quiet HM1.out)
    have hT : (sentL m (nums e) L).length ≤ 300000 := by
      have := sent_len (m := m) (E := nums e) (by rw [nums_length]; exact he) L hl
      omega
    have HT := Lib.hid hT
    have HLl := Lib.hid hl
    have HBy := Lib.hid (sent_bytes (m := m) (E := nums e) hmm (nums_bytes e) L h.1)
    clear h hl hT HM0 HN0 HG
    go_loopw [4, 5] (fun s v wr => ∃ (k : Nat) (S : List Int), s = .string (strOfNums S) ∧ v = .int .i64 k ∧ k ≤ L.length ∧ S ++ sentL m (nums e) (L.drop k) = sentL m (nums e) L ∧ Mod [] w1 wr) (fun _ v _ => L.length - (intOf v).toNat)
    case atStart => exact ⟨0, [], rfl, rfl, Nat.zero_le _, rfl, Mod.refl _ _⟩
    case round =>
      obtain ⟨k, S, rfl, rfl, hk, hS, hmod⟩ := hrel
      have HS := Lib.hid hS
      have HMr := Lib.hid hmod
      have k0 := blk_cell (hmod.row HN1.out (by simp)) 0
      have k1 := blk_cell (hmod.row HN1.out (by simp)) 1
      have k2 := blk_cell (hmod.row HN1.out (by simp)) 2
      have hSl : S.length ≤ 300000 := by
        have h1 := congrArg List.length hS
        rw [List.length_append] at h1
        have := HT.out
        omega
      clear hS hmod
      by_cases hlt : k < L.length
      · obtain ⟨b, o, ha, -⟩ := HC.out.addr (by omega)
        have hix := ixa (P := Tryd.prog) 22 9 Tryd.underlying22 1 sizeS a b o L.length cap k ha hlt
        rw [Nat.mul_one] at hix
        have hcell := (ha ▸ HC.out : CellsS _ (some ⟨b, o, none⟩) L).at k hlt
        have hst := sent_step (m := m) (E := nums e) hlt
        have HBx := Lib.hid (HC.out.byt k)
        have hpl := getDL_len HLl.out k
        clear ha
        obtain ⟨t, ht⟩ : ∃ t, L.getD k [] = t := ⟨_, rfl⟩
        rw [ht] at hcell hst hpl HBx
        clear ht
        have HSt := Lib.hid hst
        clear hst
        have H3 := Lib.hid (fun (W : World) => rthree_any m W hmm)
        have hd3 := dig3_len m
        have hce : strOfNums (nums e) = e := strOfNums_nums e
        have hel : (nums e).length ≤ 1000 := by rw [nums_length]; exact he
        have HCl := Lib.hid (fun (W : World) (hm : Mod [] wr W) => HMr.out.trans hm)
        have HCell := Lib.hid (fun (W : World) (hm : Mod [] wr W) => ((hm.cell (HMr.out.cell hcell (by simp)) (by simp)) : W.cell? ⟨b, o + k, none⟩ = some (.string (strOfNums t))))
        have HRow := Lib.hid (fun (W : World) (hm : Mod [] wr W) => hm.row (HMr.out.row HN1.out (by simp)) (by simp))
        clear hcell
        by_cases hlast : k + 1 < L.length
        · have hlI : (k : Int) < (L.length : Int) - 1 := by omega
          rw [decide_eq_true hlast] at HSt
          by_cases h0 : e.size = 0
          · have e1 : e.toList = [] := toList_nil.2 h0
            have e2 : (e.toList == ([] : List UInt8)) = true := by rw [e1]; rfl
            have he0 : enhL (nums e) = [] := by rw [nums_nil.2 h0]; rfl
            obtain ⟨X1, hX1⟩ : ∃ X, X = S ++ dig3 m := ⟨_, rfl⟩
            have l1 := app_len hX1
            have A1 := add_to (P := Tryd.prog) S (dig3 m) X1 hX1 (by omega)
            obtain ⟨X2, hX2⟩ : ∃ X, X = X1 ++ [45] := ⟨_, rfl⟩
            have l2 := app_len hX2
            simp only [List.length_cons, List.length_nil] at l2
            have A2 := add_to (P := Tryd.prog) X1 ([45] : List Int) X2 hX2 (by simp only [List.length_cons, List.length_nil]; omega)
            rw [← lit_dash] at A2
            obtain ⟨X3, hX3⟩ : ∃ X, X = X2 ++ t := ⟨_, rfl⟩
            have l3 := app_len hX3
            have A3 := add_to (P := Tryd.prog) X2 t X3 hX3 (by omega)
            obtain ⟨X4, hX4⟩ : ∃ X, X = X3 ++ [13, 10] := ⟨_, rfl⟩
            have l4 := app_len hX4
            simp only [List.length_cons, List.length_nil] at l4
            have A4 := add_to (P := Tryd.prog) X3 ([13, 10] : List Int) X4 hX4 (by simp only [List.length_cons, List.length_nil]; omega)
            rw [← lit_crlf] at A4
            have HSn := Lib.hid (show X4 ++ sentL m (nums e) (L.drop (k + 1)) = sentL m (nums e) L by
              rw [← HS.out, HSt.out]; unfold lineL; rw [he0, hX4, hX3, hX2, hX1]; simp)
            clear hX1 l1 hX2 l2 hX3 l3 hX4 l4
            clear h0 he0 hlast hd3 hpl
            go_wp2_with (go_at_call 22; refine (H3.out _).mono ?_; rintro e w5 ⟨rfl, hm5⟩; clear k0 k1 k2; have k0 := blk_cell (HRow.out _ hm5) 0; have k1 := blk_cell (HRow.out _ hm5) 1; have k2 := blk_cell (HRow.out _ hm5) 2; have hcell := HCell.out _ hm5; have HM5 := Lib.hid (HMr.out.trans hm5); clear hm5)
            go_roundw
            case rel => exact ⟨k + 1, _, rfl, by go_num, by omega, HSn.out, HM5.out⟩
            case measure => simp [intOf]; omega
          · have e1 : e.toList ≠ [] := fun h => h0 (toList_nil.1 h)
            have e2 : (e.toList == ([] : List UInt8)) = false := by rw [beq_eq_false_iff_ne]; exact e1
            have he0 : enhL (nums e) = nums e ++ [32] := by unfold enhL; rw [if_neg (fun h => h0 (nums_nil.1 h))]
            obtain ⟨X1, hX1⟩ : ∃ X, X = S ++ dig3 m := ⟨_, rfl⟩
            have l1 := app_len hX1
            have A1 := add_to (P := Tryd.prog) S (dig3 m) X1 hX1 (by omega)
            obtain ⟨X2, hX2⟩ : ∃ X, X = X1 ++ [45] := ⟨_, rfl⟩
            have l2 := app_len hX2
            simp only [List.length_cons, List.length_nil] at l2
            have A2 := add_to (P := Tryd.prog) X1 ([45] : List Int) X2 hX2 (by simp only [List.length_cons, List.length_nil]; omega)
            rw [← lit_dash] at A2
            obtain ⟨X3, hX3⟩ : ∃ X, X = X2 ++ nums e := ⟨_, rfl⟩
            have l3 := app_len hX3
            have A3 := add_to (P := Tryd.prog) X2 (nums e) X3 hX3 (by omega)
            rw [hce] at A3
            obtain ⟨X4, hX4⟩ : ∃ X, X = X3 ++ [32] := ⟨_, rfl⟩
            have l4 := app_len hX4
            simp only [List.length_cons, List.length_nil] at l4
            have A4 := add_to (P := Tryd.prog) X3 ([32] : List Int) X4 hX4 (by simp only [List.length_cons, List.length_nil]; omega)
            rw [← lit_blank] at A4
            obtain ⟨X5, hX5⟩ : ∃ X, X = X4 ++ t := ⟨_, rfl⟩
            have l5 := app_len hX5
            have A5 := add_to (P := Tryd.prog) X4 t X5 hX5 (by omega)
            obtain ⟨X6, hX6⟩ : ∃ X, X = X5 ++ [13, 10] := ⟨_, rfl⟩
            have l6 := app_len hX6
            simp only [List.length_cons, List.length_nil] at l6
            have A6 := add_to (P := Tryd.prog) X5 ([13, 10] : List Int) X6 hX6 (by simp only [List.length_cons, List.length_nil]; omega)
            rw [← lit_crlf] at A6
            have HSn := Lib.hid (show X6 ++ sentL m (nums e) (L.drop (k + 1)) = sentL m (nums e) L by
              rw [← HS.out, HSt.out]; unfold lineL; rw [he0, hX6, hX5, hX4, hX3, hX2, hX1]; simp)
            clear hX1 l1 hX2 l2 hX3 l3 hX4 l4 hX5 l5 hX6 l6
            clear h0 he0 hlast hd3 hpl hce
            go_wp2_with (go_at_call 22; refine (H3.out _).mono ?_; rintro e w5 ⟨rfl, hm5⟩; clear k0 k1 k2; have k0 := blk_cell (HRow.out _ hm5) 0; have k1 := blk_cell (HRow.out _ hm5) 1; have k2 := blk_cell (HRow.out _ hm5) 2; have hcell := HCell.out _ hm5; have HM5 := Lib.hid (HMr.out.trans hm5); clear hm5)
            go_roundw
            case rel => exact ⟨k + 1, _, rfl, by go_num, by omega, HSn.out, HM5.out⟩
            case measure => simp [intOf]; omega
        · have hlI : ¬ (k : Int) < (L.length : Int) - 1 := by omega
          rw [decide_eq_false hlast] at HSt
          by_cases h0 : e.size = 0
          · have e1 : e.toList = [] := toList_nil.2 h0
            have e2 : (e.toList == ([] : List UInt8)) = true := by rw [e1]; rfl
            have he0 : enhL (nums e) = [] := by rw [nums_nil.2 h0]; rfl
            obtain ⟨X1, hX1⟩ : ∃ X, X = S ++ dig3 m := ⟨_, rfl⟩
            have l1 := app_len hX1
            have A1 := add_to (P := Tryd.prog) S (dig3 m) X1 hX1 (by omega)
            obtain ⟨X2, hX2⟩ : ∃ X, X = X1 ++ [32] := ⟨_, rfl⟩
            have l2 := app_len hX2
            simp only [List.length_cons, List.length_nil] at l2
            have A2 := add_to (P := Tryd.prog) X1 ([32] : List Int) X2 hX2 (by simp only [List.length_cons, List.length_nil]; omega)
            rw [← lit_blank] at A2
            obtain ⟨X3, hX3⟩ : ∃ X, X = X2 ++ t := ⟨_, rfl⟩
            have l3 := app_len hX3
            have A3 := add_to (P := Tryd.prog) X2 t X3 hX3 (by omega)
            obtain ⟨X4, hX4⟩ : ∃ X, X = X3 ++ [13, 10] := ⟨_, rfl⟩
            have l4 := app_len hX4
            simp only [List.length_cons, List.length_nil] at l4
            have A4 := add_to (P := Tryd.prog) X3 ([13, 10] : List Int) X4 hX4 (by simp only [List.length_cons, List.length_nil]; omega)
            rw [← lit_crlf] at A4
            have HSn := Lib.hid (show X4 ++ sentL m (nums e) (L.drop (k + 1)) = sentL m (nums e) L by
              rw [← HS.out, HSt.out]; unfold lineL; rw [he0, hX4, hX3, hX2, hX1]; simp)
            clear hX1 l1 hX2 l2 hX3 l3 hX4 l4
            clear h0 he0 hlast hd3 hpl
            go_wp2_with (go_at_call 22; refine (H3.out _).mono ?_; rintro e w5 ⟨rfl, hm5⟩; clear k0 k1 k2; have k0 := blk_cell (HRow.out _ hm5) 0; have k1 := blk_cell (HRow.out _ hm5) 1; have k2 := blk_cell (HRow.out _ hm5) 2; have hcell := HCell.out _ hm5; have HM5 := Lib.hid (HMr.out.trans hm5); clear hm5)
            go_roundw
            case rel => exact ⟨k + 1, _, rfl, by go_num, by omega, HSn.out, HM5.out⟩
            case measure => simp [intOf]; omega
          · have e1 : e.toList ≠ [] := fun h => h0 (toList_nil.1 h)
            have e2 : (e.toList == ([] : List UInt8)) = false := by rw [beq_eq_false_iff_ne]; exact e1
            have he0 : enhL (nums e) = nums e ++ [32] := by unfold enhL; rw [if_neg (fun h => h0 (nums_nil.1 h))]
            obtain ⟨X1, hX1⟩ : ∃ X, X = S ++ dig3 m := ⟨_, rfl⟩
            have l1 := app_len hX1
            have A1 := add_to (P := Tryd.prog) S (dig3 m) X1 hX1 (by omega)
            obtain ⟨X2, hX2⟩ : ∃ X, X = X1 ++ [32] := ⟨_, rfl⟩
            have l2 := app_len hX2
            simp only [List.length_cons, List.length_nil] at l2
            have A2 := add_to (P := Tryd.prog) X1 ([32] : List Int) X2 hX2 (by simp only [List.length_cons, List.length_nil]; omega)
            rw [← lit_blank] at A2
            obtain ⟨X3, hX3⟩ : ∃ X, X = X2 ++ nums e := ⟨_, rfl⟩
            have l3 := app_len hX3
            have A3 := add_to (P := Tryd.prog) X2 (nums e) X3 hX3 (by omega)
            rw [hce] at A3
            obtain ⟨X4, hX4⟩ : ∃ X, X = X3 ++ [32] := ⟨_, rfl⟩
            have l4 := app_len hX4
            simp only [List.length_cons, List.length_nil] at l4
            have A4 := add_to (P := Tryd.prog) X3 ([32] : List Int) X4 hX4 (by simp only [List.length_cons, List.length_nil]; omega)
            rw [← lit_blank] at A4
            obtain ⟨X5, hX5⟩ : ∃ X, X = X4 ++ t := ⟨_, rfl⟩
            have l5 := app_len hX5
            have A5 := add_to (P := Tryd.prog) X4 t X5 hX5 (by omega)
            obtain ⟨X6, hX6⟩ : ∃ X, X = X5 ++ [13, 10] := ⟨_, rfl⟩
            have l6 := app_len hX6
            simp only [List.length_cons, List.length_nil] at l6
            have A6 := add_to (P := Tryd.prog) X5 ([13, 10] : List Int) X6 hX6 (by simp only [List.length_cons, List.length_nil]; omega)
            rw [← lit_crlf] at A6
            have HSn := Lib.hid (show X6 ++ sentL m (nums e) (L.drop (k + 1)) = sentL m (nums e) L by
              rw [← HS.out, HSt.out]; unfold lineL; rw [he0, hX6, hX5, hX4, hX3, hX2, hX1]; simp)
            clear hX1 l1 hX2 l2 hX3 l3 hX4 l4 hX5 l5 hX6 l6
            clear h0 he0 hlast hd3 hpl hce
            go_wp2_with (go_at_call 22; refine (H3.out _).mono ?_; rintro e w5 ⟨rfl, hm5⟩; clear k0 k1 k2; have k0 := blk_cell (HRow.out _ hm5) 0; have k1 := blk_cell (HRow.out _ hm5) 1; have k2 := blk_cell (HRow.out _ hm5) 2; have hcell := HCell.out _ hm5; have HM5 := Lib.hid (HMr.out.trans hm5); clear hm5)
            go_roundw
            case rel => exact ⟨k + 1, _, rfl, by go_num, by omega, HSn.out, HM5.out⟩
            case measure => simp [intOf]; omega
      · have hge : ¬ (k : Int) < (L.length : Int) := by omega
        have hSe : S = sentL m (nums e) L := by have := HS.out; rwa [sentL_end _ _ _ _ (by omega), List.append_nil] at this
        have HSe := Lib.hid hSe
        have hSb : Bytes S := by rw [hSe]; exact HBy.out
        obtain ⟨aa, cp, wf, hcw, hc8, hmf, -, -, -⟩ := conv_bytes (P := Tryd.prog) wr 9 27 5 (strOfNums S) Tryd.underlying9 Tryd.underlying27 Tryd.underlying5
        rw [nums_strOfNums hSb] at hc8
        have HC8 := Lib.hid hc8
        have HMf := Lib.hid ((HM1.out.trans HMr.out).trans hmf)
        obtain ⟨N, hN⟩ : ∃ N, (strOfNums S).size = N := ⟨_, rfl⟩
        rw [hN] at hcw
        have HN := Lib.hid (show N = S.length by rw [← hN, size_strOfNums])
        clear hSe hSb hc8 hmf hN hlt
        go_wp2_with fail
        go_ret2
        refine sent_yes HG0.out ?_ ?_ HMf.out
        · rw [HSR.out, ← HSe.out]; exact HN.out
        · rw [HSR.out, ← HSe.out]; exact HC8.out
end Go.Proofs.YtdedolbaldfmbaaDoor
