/- CmdMost: a line may have just so many bytes as the document says, and no byte that can't be printed. -/
import Derived.Test.YtebncajpamaodaaGreatDoorCmK
import Derived.Test.YtebncajpamaodaaGreatDoorCmZ
import Derived.Laws.OwnMore
import Derived.Laws.Concat
namespace Go.Proofs.YtebncajpamaodaaGreatDoor
open Go.Maps Go.Shelf Go.ChangeShapes Go.WideShapes Go.ChangeAt Go.RowKit
set_option linter.unusedVariables false
set_option linter.unusedSimpArgs false

theorem spB_of {p : Int → Bool} {l : List Int} (h : ∀ x ∈ l, p x = true) (hne : l ≠ []) : spB p l = true := by
  unfold spB
  rw [Bool.and_eq_true]
  refine ⟨?_, List.all_eq_true.2 h⟩
  cases l with
  | nil => exact absurd rfl hne
  | cons => rfl
theorem noop_bad {l : List Int} (h : 505 < l.length ∨ ∃ x ∈ l, spanB 32 126 x = false) : parseC (78 :: 79 :: 79 :: 80 :: 32 :: l) = (.zero, 500) := by
  unfold parseC
  apply if_pos
  rcases h with h | ⟨x, hx, h⟩
  · left; simp only [List.length_cons]; omega
  · right
    unfold spB
    rw [Bool.and_eq_false_iff]
    right
    rw [List.all_eq_false]
    exact ⟨x, by simp [hx], by simp [h]⟩
theorem noop_ok {l : List Int} (h1 : l.length ≤ 505) (h2 : ∀ x ∈ l, spanB 32 126 x = true) : parseC (78 :: 79 :: 79 :: 80 :: 32 :: l) = (⟨8, l, [], [], false, -1, 0⟩, 0) := by
  have hs : spB (spanB 32 126) (78 :: 79 :: 79 :: 80 :: 32 :: l) = true := spB_of (by
    intro x hx
    simp only [List.mem_cons] at hx
    rcases hx with rfl | rfl | rfl | rfl | rfl | hx
    · decide
    · decide
    · decide
    · decide
    · decide
    · exact h2 x hx) (by simp)
  have hsp : spn (fun x => x != 32) (78 :: 79 :: 79 :: 80 :: 32 :: l) = 4 := by
    simp [spn_cons]
  have hw : cutW 32 (78 :: 79 :: 79 :: 80 :: 32 :: l) = [78, 79, 79, 80] := by unfold cutW; rw [hsp]; rfl
  have hr : cutR 32 (78 :: 79 :: 79 :: 80 :: 32 :: l) = l := by unfold cutR; rw [hsp]; rfl
  have hb : cutB 32 (78 :: 79 :: 79 :: 80 :: 32 :: l) = true := by unfold cutB; rw [hsp]; simp
  have hv : verbN [78, 79, 79, 80] = 8 := by decide +kernel
  unfold parseC
  rw [hs, hw, hr, hb, hv, if_neg (by simp only [List.length_cons]; intro h; rcases h with h | h; omega; cases h), if_neg (by decide)]
  unfold restC
  rw [if_neg (by decide), if_pos (by unfold argB; simp)]

theorem cd8 (l : List Int) : cmD ⟨8, l, [], [], false, -1, 0⟩ = #[.int .i64 8, .string (strOfNums l), .string { data := #[] }, .string { data := #[] }, .bool false, .int .i64 (-1), .int .i64 0] := by
  unfold cmD cmC; simp only [cs0]; rfl
theorem fill_ok (k : Nat) : ∀ x ∈ List.replicate k (97 : Int), spanB 32 126 x = true := fun x hx => by rw [(List.mem_replicate.1 hx).2]; decide
theorem fill_set {k j : Nat} {c : Int} {P : Int → Prop} (hP : P 97) (hc : P c) : ∀ x ∈ (List.replicate k (97 : Int)).set j c, P x := fun x hx => by
  rcases List.mem_or_eq_of_mem_set hx with h | h
  · rw [(List.mem_replicate.1 h).2]; exact hP
  · rw [h]; exact hc

/-- a block of bytes -/
def Row8 (w : World) (g : Nat) (l : List Int) : Prop := w.heap[g]? = some (.cells (u8s l).toArray 5 (0, 0))
theorem Row8.cell {w : World} {g : Nat} {l : List Int} (h : Row8 w g l) (i : Nat) (hi : i < l.length) : w.cell? ⟨g, i, none⟩ = some (.int .u8 (l.getD i 0)) := by
  rw [blk_cell h i]
  simp [List.getD, hi]
theorem Row8.free {w : World} {g : Nat} {l : List Int} (h : Row8 w g l) (i : Nat) : w.frozen? ⟨g, i, none⟩ = false := blk_free h i
theorem Row8.set {w : World} {g : Nat} {l : List Int} (h : Row8 w g l) (i : Nat) (x : Int) : Row8 (w.setCell ⟨g, i, none⟩ (.int .u8 x)) g (l.set i x) := by
  unfold Row8
  rw [blk_set h i]
  congr 2
  rw [u8s_set]
  simp
theorem Row8.cells8 {w : World} {g : Nat} {l : List Int} (h : Row8 w g l) (hb : Bytes l) : Cells8 w (some ⟨g, 0, none⟩) l :=
  ⟨hb, .inr ⟨g, 0, rfl, fun i hi => by rw [Nat.zero_add]; exact h.cell i hi⟩⟩
theorem Row8.mod {F : List Nat} {w w' : World} {g : Nat} {l : List Int} (h : Row8 w g l) (hm : Mod F w w') (hF : g ∉ F) : Row8 w' g l := hm.row h hF
theorem make_row (m : Nat) (hm : m ≤ 2000) (w : World) : ∃ w', (Instr.makeSlice 39 (.int .i64 m) (.int .i64 m)).run Tryz.prog w = .ok (.slice (some ⟨w.heap.size, 0, none⟩) m m) w' ∧ Row8 w' w.heap.size (List.replicate m 0) ∧ Mod [] w w' := by
  obtain ⟨i, hi1, hi2, hi3, hi4⟩ := info_parts (show (Tryz.prog.info? 5).map (fun i => (i.zero, i.size, i.bytes)) = some (some (.int .u8 0), 1, 1) by kernel_rfl)
  have h := run_makeSlice (P := Tryz.prog) w 39 5 i (.int .u8 0) Tryz.underlying39 hi1 hi2 .i64 .i64 m m (by omega) (Int.le_refl _) (by rw [hi3]; simp; omega) (by rw [hi4]; simp; omega) (by omega)
  simp only [Int.toNat_natCast] at h
  refine ⟨_, h, ?_, (Mod.refl [] w).alloc _⟩
  have e : madeCells (Value.cells (.int .u8 0)) (m * i.size) = (u8s (List.replicate m 0)).toArray := by
    rw [hi3]
    apply Array.ext
    · simp [madeCells, Value.cells]
    · intro j h1 h2
      simp [madeCells, Value.cells, Nat.mod_one]
  unfold Row8
  rw [heap_alloc_new w _, e]
set_option maxRecDepth 100000 in
theorem upon_make_row {o : Oper} {a : Act} {w : World} {K : Act → World → Prop} {Q : Exit → Act → World → Prop} (m : Nat) (hm : m ≤ 2000)
    (h : ∀ w', Row8 w' w.heap.size (List.replicate m 0) → Mod [] w w' → K (a.put o.dst (.slice (some ⟨w.heap.size, 0, none⟩) m m)) w') :
    Oper.upon Tryz.prog o a K Q ((Sem.run Tryz.prog (Instr.makeSlice 39 (.int .i64 m) (.int .i64 m)) w).andThen fun v w' => Result.ok (Next.value v) w') := by
  obtain ⟨w', hr, hc, hm⟩ := make_row m hm w
  rw [hr]
  exact h w' hc hm
/-- the first k bytes a -/
def fillK (n k : Nat) : List Int := List.replicate k 97 ++ List.replicate (n - k) 0
theorem fillK_len {n k : Nat} (h : k ≤ n) : (fillK n k).length = n := by simp [fillK]; omega
theorem fillK_step {n k : Nat} (h : k < n) : (fillK n k).set k 97 = fillK n (k + 1) := by
  unfold fillK
  rw [List.set_append_right k _ (by simp), List.length_replicate, Nat.sub_self]
  obtain ⟨m, rfl⟩ : ∃ m, n = k + 1 + m := ⟨n - (k + 1), by omega⟩
  rw [show k + 1 + m - k = m + 1 by omega, show k + 1 + m - (k + 1) = m by omega, List.replicate_succ, List.replicate_succ']
  simp
theorem noop_str : ({ data := #[78, 79, 79, 80, 32] } : ByteArray) = strOfNums [78, 79, 79, 80, 32] := by decide +kernel
theorem strOfNums_app (a b : List Int) : strOfNums a ++ strOfNums b = strOfNums (a ++ b) := by
  apply ByteArray.ext
  rw [ByteArray.data_append]
  simp [strOfNums]
theorem add_text (x y : ByteArray) (hx : x.size ≤ 1000000) (hy : y.size ≤ 1000000) : ∀ W, (Op.stringOp .add x y).run Tryz.prog W = .ok (.string (x ++ y)) W := fun W => run_string_add_sum W x y (by omega)

set_option maxRecDepth 100000 in
set_option maxHeartbeats 8000000 in
theorem most_any (n at_ c : Int) (w : World) (hE : Env w) (hc0 : 0 ≤ c) (hc1 : c ≤ 255) :
    Calls Tryz.prog 6 #[.int .i64 n, .int .i64 at_, .int .u8 c] w fun e w' => e = .returned (.bool true) ∧ Below w.heap.size w w' := by
  have HE := Lib.hid hE
  clear hE
  go_enter Tryz.func6, Tryz.ntmps6
  go_wp2_with fail
  refine (cawake_any w HE.out).mono ?_
  rintro e w1 ⟨rfl, hb1⟩
  have HM1 := Lib.hid (Mod.ofBelow hb1)
  clear hb1
  by_cases hn0 : n < 0
  · go_wp2_with fail
    go_ret
    exact ⟨rfl, HM1.out.toBelow (Nat.le_refl _) (by simp)⟩
  by_cases hn6 : 600 < n
  · have hn0' : 0 ≤ n := by omega
    go_wp2_with fail
    go_ret
    exact ⟨rfl, HM1.out.toBelow (Nat.le_refl _) (by simp)⟩
  obtain ⟨m, rfl⟩ : ∃ m : Nat, n = m := ⟨n.toNat, by omega⟩
  have hm6 : (m : Int) ≤ 600 := by omega
  have hmN : m ≤ 600 := by omega
  have hm0 : (0 : Int) ≤ (m : Int) := by omega
  clear hn0 hn6
  go_wp2_with (refine upon_make_row m (by omega) ?_; intro w2 hr2 hm2; have HR2 := Lib.hid hr2; have HM2 := Lib.hid (HM1.out.trans hm2); clear hr2 hm2)
  have hg1 : w.heap.size ≤ w1.heap.size := HM1.out.size
  generalize w1.heap.size = g at *
  have HG := Lib.hid hg1
  clear hg1
  go_loopw [8] (fun i wr => ∃ k : Nat, i = .int .i64 k ∧ k ≤ m ∧ Row8 wr g (fillK m k) ∧ Mod [g] w wr) (fun i _ => (m - intOf i).toNat)
  case atStart => exact ⟨0, rfl, Nat.zero_le _, by simpa [fillK] using HR2.out, HM2.out.mono (by simp)⟩
  case round =>
    obtain ⟨k, rfl, hk, hr, hm⟩ := hrel
    have HR := Lib.hid hr
    have HM := Lib.hid hm
    clear hr hm
    by_cases hlt : k < m
    · have hI : (k : Int) < (m : Int) := by omega
      have k0 := HR.out.cell k (by rw [fillK_len hk]; exact hlt)
      have y0 := HR.out.free k
      have HSt := Lib.hid (fillK_step hlt)
      go_wp2_with fail
      go_roundw
      case rel => exact ⟨k + 1, by go_num, by omega, by rw [← HSt.out]; exact HR.out.set k 97, HM.out.setCell (p := ⟨g, k, none⟩) (Or.inl (by simp)) _⟩
      case measure => simp [intOf]; omega
    · have hI : (m : Int) ≤ (k : Int) := by omega
      obtain rfl : k = m := by omega
      have HFill := Lib.hid (show fillK k k = List.replicate k 97 by simp [fillK])
      rw [HFill.out] at HR
      clear hlt hI HR2 HM2 HFill
      by_cases hin : 0 ≤ at_ ∧ at_ < (k : Int)
      · obtain ⟨j, rfl⟩ : ∃ j : Nat, at_ = j := ⟨at_.toNat, by omega⟩
        obtain ⟨hj0, hj1⟩ := hin
        have hjk : j < k := by omega
        have k0 := HR.out.cell j (by simpa using hjk)
        have y0 := HR.out.free j
        by_cases h5 : 505 < k
        · have h5' : (510 : Int) < 5 + (k : Int) := by omega
          have hr4 := HR.out.set j c
          have hm4 := HM.out.setCell (p := ⟨g, j, none⟩) (Or.inl (by simp)) (.int .u8 c)
          have hlb : Bytes ((List.replicate k 97).set j c) := fill_set (P := fun x => 0 ≤ x ∧ x < 256) (by decide) (by omega)
          have hll : (((List.replicate k 97).set j c)).length = k := by simp
          have hBs : (strOfNums ((List.replicate k 97).set j c)).size = k := by rw [strOfNums_size, hll]
          obtain ⟨X, hX⟩ : ∃ X, ({ data := #[78, 79, 79, 80, 32] } : ByteArray) ++ strOfNums ((List.replicate k 97).set j c) = X := ⟨_, rfl⟩
          have hXn : nums X = 78 :: 79 :: 79 :: 80 :: 32 :: ((List.replicate k 97).set j c) := by
            rw [← hX, noop_str, strOfNums_app, nums_strOfNums]
            · rfl
            · exact (show Bytes [78, 79, 79, 80, 32] by unfold Bytes; decide).append hlb
          have hXs : X.size ≤ 100000 := by rw [← nums_length, hXn]; simp; omega
          have HXp := Lib.hid (show parseC (nums X) = (.zero, 500) by rw [hXn]; exact noop_bad (Or.inl (by simpa using h5)))
          have F := run_str (P := Tryz.prog) (hr4.cells8 hlb) 39 9 5 k k Tryz.underlying39 Tryz.underlying5 Tryz.underlying9 hll.symm
          have hadd := add_text { data := #[78, 79, 79, 80, 32] } (strOfNums ((List.replicate k 97).set j c)) (by decide) (by rw [hBs]; omega)
          rw [hX] at hadd
          have HR4 := Lib.hid hr4
          have HM4 := Lib.hid hm4
          have HLb := Lib.hid hlb
          have HLl := Lib.hid hll
          have HE4 := Lib.hid (HE.out.mod hm4 (by have := HG.out; have := HE.out.lt; intro x hx; simp at hx; omega))
          have HPa := Lib.hid (fun W (h : Env W) => parsec_any X W h hXs)
          clear hr4 hm4 hlb hll hBs hX hXn hXs
          generalize strOfNums ((List.replicate k 97).set j c) = B at *
          go_wp2_with fail
          refine (HPa.out _ HE4.out).mono ?_
          rintro e w5 ⟨rfl, hb5⟩
          rw [HXp.out, cd0]
          have hn6 := heap_alloc_new w5 (.cells #[.int .i64 0, .string { data := #[] }, .string { data := #[] }, .string { data := #[] }, .bool false, .int .i64 0, .int .i64 0] 26)
          have hm6 : Mod [] w5 (w5.alloc (.cells #[.int .i64 0, .string { data := #[] }, .string { data := #[] }, .string { data := #[] }, .bool false, .int .i64 0, .int .i64 0] 26)) := (Mod.refl [] w5).alloc _
          have HN6 := Lib.hid hn6
          have HM6 := Lib.hid ((HM4.out.trans ((Mod.ofBelow hb5).mono (by simp))).trans (hm6.mono (by simp)))
          have HR6 := Lib.hid ((HR4.out.mod (Mod.ofBelow hb5) (by simp)).mod hm6 (by simp))
          clear hb5 hn6 hm6 hadd F
          go_upto_region 13 with (fail)
          generalize w5.alloc (.cells #[.int .i64 0, .string { data := #[] }, .string { data := #[] }, .string { data := #[] }, .bool false, .int .i64 0, .int .i64 0] 26) = w6 at *
          generalize w5.heap.size = g6 at *
          have k0 := blk_cell HN6.out 0
          have k1 := blk_cell HN6.out 1
          have k2 := blk_cell HN6.out 2
          have k3 := blk_cell HN6.out 3
          have k4 := blk_cell HN6.out 4
          have k5 := blk_cell HN6.out 5
          have k6 := blk_cell HN6.out 6
          go_wp2_with fail
          go_ret
          exact ⟨rfl, HM6.out.toBelow (Nat.le_refl _) (by have := HG.out; intro x hx; simp at hx; omega)⟩
        have h5' : 5 + (k : Int) ≤ 510 := by omega
        by_cases hc3 : c < 32
        · skip
          have hr4 := HR.out.set j c
          have hm4 := HM.out.setCell (p := ⟨g, j, none⟩) (Or.inl (by simp)) (.int .u8 c)
          have hlb : Bytes ((List.replicate k 97).set j c) := fill_set (P := fun x => 0 ≤ x ∧ x < 256) (by decide) (by omega)
          have hll : (((List.replicate k 97).set j c)).length = k := by simp
          have hBs : (strOfNums ((List.replicate k 97).set j c)).size = k := by rw [strOfNums_size, hll]
          obtain ⟨X, hX⟩ : ∃ X, ({ data := #[78, 79, 79, 80, 32] } : ByteArray) ++ strOfNums ((List.replicate k 97).set j c) = X := ⟨_, rfl⟩
          have hXn : nums X = 78 :: 79 :: 79 :: 80 :: 32 :: ((List.replicate k 97).set j c) := by
            rw [← hX, noop_str, strOfNums_app, nums_strOfNums]
            · rfl
            · exact (show Bytes [78, 79, 79, 80, 32] by unfold Bytes; decide).append hlb
          have hXs : X.size ≤ 100000 := by rw [← nums_length, hXn]; simp; omega
          have HXp := Lib.hid (show parseC (nums X) = (.zero, 500) by rw [hXn]; exact noop_bad (Or.inr ⟨c, List.mem_set (by simpa using hjk) c, by unfold spanB; simp; omega⟩))
          have F := run_str (P := Tryz.prog) (hr4.cells8 hlb) 39 9 5 k k Tryz.underlying39 Tryz.underlying5 Tryz.underlying9 hll.symm
          have hadd := add_text { data := #[78, 79, 79, 80, 32] } (strOfNums ((List.replicate k 97).set j c)) (by decide) (by rw [hBs]; omega)
          rw [hX] at hadd
          have HR4 := Lib.hid hr4
          have HM4 := Lib.hid hm4
          have HLb := Lib.hid hlb
          have HLl := Lib.hid hll
          have HE4 := Lib.hid (HE.out.mod hm4 (by have := HG.out; have := HE.out.lt; intro x hx; simp at hx; omega))
          have HPa := Lib.hid (fun W (h : Env W) => parsec_any X W h hXs)
          clear hr4 hm4 hlb hll hBs hX hXn hXs
          generalize strOfNums ((List.replicate k 97).set j c) = B at *
          go_wp2_with fail
          refine (HPa.out _ HE4.out).mono ?_
          rintro e w5 ⟨rfl, hb5⟩
          rw [HXp.out, cd0]
          have hn6 := heap_alloc_new w5 (.cells #[.int .i64 0, .string { data := #[] }, .string { data := #[] }, .string { data := #[] }, .bool false, .int .i64 0, .int .i64 0] 26)
          have hm6 : Mod [] w5 (w5.alloc (.cells #[.int .i64 0, .string { data := #[] }, .string { data := #[] }, .string { data := #[] }, .bool false, .int .i64 0, .int .i64 0] 26)) := (Mod.refl [] w5).alloc _
          have HN6 := Lib.hid hn6
          have HM6 := Lib.hid ((HM4.out.trans ((Mod.ofBelow hb5).mono (by simp))).trans (hm6.mono (by simp)))
          have HR6 := Lib.hid ((HR4.out.mod (Mod.ofBelow hb5) (by simp)).mod hm6 (by simp))
          clear hb5 hn6 hm6 hadd F
          go_upto_region 13 with (fail)
          generalize w5.alloc (.cells #[.int .i64 0, .string { data := #[] }, .string { data := #[] }, .string { data := #[] }, .bool false, .int .i64 0, .int .i64 0] 26) = w6 at *
          generalize w5.heap.size = g6 at *
          have k0 := blk_cell HN6.out 0
          have k1 := blk_cell HN6.out 1
          have k2 := blk_cell HN6.out 2
          have k3 := blk_cell HN6.out 3
          have k4 := blk_cell HN6.out 4
          have k5 := blk_cell HN6.out 5
          have k6 := blk_cell HN6.out 6
          go_wp2_with fail
          go_ret
          exact ⟨rfl, HM6.out.toBelow (Nat.le_refl _) (by have := HG.out; intro x hx; simp at hx; omega)⟩
        have hc3' : 32 ≤ c := by omega
        by_cases hc6 : 126 < c
        · skip
          have hr4 := HR.out.set j c
          have hm4 := HM.out.setCell (p := ⟨g, j, none⟩) (Or.inl (by simp)) (.int .u8 c)
          have hlb : Bytes ((List.replicate k 97).set j c) := fill_set (P := fun x => 0 ≤ x ∧ x < 256) (by decide) (by omega)
          have hll : (((List.replicate k 97).set j c)).length = k := by simp
          have hBs : (strOfNums ((List.replicate k 97).set j c)).size = k := by rw [strOfNums_size, hll]
          obtain ⟨X, hX⟩ : ∃ X, ({ data := #[78, 79, 79, 80, 32] } : ByteArray) ++ strOfNums ((List.replicate k 97).set j c) = X := ⟨_, rfl⟩
          have hXn : nums X = 78 :: 79 :: 79 :: 80 :: 32 :: ((List.replicate k 97).set j c) := by
            rw [← hX, noop_str, strOfNums_app, nums_strOfNums]
            · rfl
            · exact (show Bytes [78, 79, 79, 80, 32] by unfold Bytes; decide).append hlb
          have hXs : X.size ≤ 100000 := by rw [← nums_length, hXn]; simp; omega
          have HXp := Lib.hid (show parseC (nums X) = (.zero, 500) by rw [hXn]; exact noop_bad (Or.inr ⟨c, List.mem_set (by simpa using hjk) c, by unfold spanB; simp; omega⟩))
          have F := run_str (P := Tryz.prog) (hr4.cells8 hlb) 39 9 5 k k Tryz.underlying39 Tryz.underlying5 Tryz.underlying9 hll.symm
          have hadd := add_text { data := #[78, 79, 79, 80, 32] } (strOfNums ((List.replicate k 97).set j c)) (by decide) (by rw [hBs]; omega)
          rw [hX] at hadd
          have HR4 := Lib.hid hr4
          have HM4 := Lib.hid hm4
          have HLb := Lib.hid hlb
          have HLl := Lib.hid hll
          have HE4 := Lib.hid (HE.out.mod hm4 (by have := HG.out; have := HE.out.lt; intro x hx; simp at hx; omega))
          have HPa := Lib.hid (fun W (h : Env W) => parsec_any X W h hXs)
          clear hr4 hm4 hlb hll hBs hX hXn hXs
          generalize strOfNums ((List.replicate k 97).set j c) = B at *
          go_wp2_with fail
          refine (HPa.out _ HE4.out).mono ?_
          rintro e w5 ⟨rfl, hb5⟩
          rw [HXp.out, cd0]
          have hn6 := heap_alloc_new w5 (.cells #[.int .i64 0, .string { data := #[] }, .string { data := #[] }, .string { data := #[] }, .bool false, .int .i64 0, .int .i64 0] 26)
          have hm6 : Mod [] w5 (w5.alloc (.cells #[.int .i64 0, .string { data := #[] }, .string { data := #[] }, .string { data := #[] }, .bool false, .int .i64 0, .int .i64 0] 26)) := (Mod.refl [] w5).alloc _
          have HN6 := Lib.hid hn6
          have HM6 := Lib.hid ((HM4.out.trans ((Mod.ofBelow hb5).mono (by simp))).trans (hm6.mono (by simp)))
          have HR6 := Lib.hid ((HR4.out.mod (Mod.ofBelow hb5) (by simp)).mod hm6 (by simp))
          clear hb5 hn6 hm6 hadd F
          go_upto_region 13 with (fail)
          generalize w5.alloc (.cells #[.int .i64 0, .string { data := #[] }, .string { data := #[] }, .string { data := #[] }, .bool false, .int .i64 0, .int .i64 0] 26) = w6 at *
          generalize w5.heap.size = g6 at *
          have k0 := blk_cell HN6.out 0
          have k1 := blk_cell HN6.out 1
          have k2 := blk_cell HN6.out 2
          have k3 := blk_cell HN6.out 3
          have k4 := blk_cell HN6.out 4
          have k5 := blk_cell HN6.out 5
          have k6 := blk_cell HN6.out 6
          go_wp2_with fail
          go_ret
          exact ⟨rfl, HM6.out.toBelow (Nat.le_refl _) (by have := HG.out; intro x hx; simp at hx; omega)⟩
        have hc6' : c ≤ 126 := by omega
        have hr4 := HR.out.set j c
        have hm4 := HM.out.setCell (p := ⟨g, j, none⟩) (Or.inl (by simp)) (.int .u8 c)
        have hlb : Bytes ((List.replicate k 97).set j c) := fill_set (P := fun x => 0 ≤ x ∧ x < 256) (by decide) (by omega)
        have hll : (((List.replicate k 97).set j c)).length = k := by simp
        have hBs : (strOfNums ((List.replicate k 97).set j c)).size = k := by rw [strOfNums_size, hll]
        obtain ⟨X, hX⟩ : ∃ X, ({ data := #[78, 79, 79, 80, 32] } : ByteArray) ++ strOfNums ((List.replicate k 97).set j c) = X := ⟨_, rfl⟩
        have hXn : nums X = 78 :: 79 :: 79 :: 80 :: 32 :: ((List.replicate k 97).set j c) := by
          rw [← hX, noop_str, strOfNums_app, nums_strOfNums]
          · rfl
          · exact (show Bytes [78, 79, 79, 80, 32] by unfold Bytes; decide).append hlb
        have hXs : X.size ≤ 100000 := by rw [← nums_length, hXn]; simp; omega
        have HXp := Lib.hid (show parseC (nums X) = (⟨8, ((List.replicate k 97).set j c), [], [], false, -1, 0⟩, 0) by rw [hXn]; exact noop_ok (by simp; omega) (fill_set (P := fun x => spanB 32 126 x = true) (by decide) (by unfold spanB; simp; omega)))
        have F := run_str (P := Tryz.prog) (hr4.cells8 hlb) 39 9 5 k k Tryz.underlying39 Tryz.underlying5 Tryz.underlying9 hll.symm
        have hadd := add_text { data := #[78, 79, 79, 80, 32] } (strOfNums ((List.replicate k 97).set j c)) (by decide) (by rw [hBs]; omega)
        rw [hX] at hadd
        have HR4 := Lib.hid hr4
        have HM4 := Lib.hid hm4
        have HLb := Lib.hid hlb
        have HLl := Lib.hid hll
        have HE4 := Lib.hid (HE.out.mod hm4 (by have := HG.out; have := HE.out.lt; intro x hx; simp at hx; omega))
        have HPa := Lib.hid (fun W (h : Env W) => parsec_any X W h hXs)
        clear hr4 hm4 hlb hll hBs hX hXn hXs
        obtain ⟨B, hB⟩ : ∃ B, strOfNums ((List.replicate k 97).set j c) = B := ⟨_, rfl⟩
        rw [hB] at F hadd
        have HBe := Lib.hid hB
        clear hB
        go_wp2_with fail
        refine (HPa.out _ HE4.out).mono ?_
        rintro e w5 ⟨rfl, hb5⟩
        rw [HXp.out, cd8, HBe.out]
        have hn6 := heap_alloc_new w5 (.cells #[.int .i64 8, .string B, .string { data := #[] }, .string { data := #[] }, .bool false, .int .i64 (-1), .int .i64 0] 26)
        have hm6 : Mod [] w5 (w5.alloc (.cells #[.int .i64 8, .string B, .string { data := #[] }, .string { data := #[] }, .bool false, .int .i64 (-1), .int .i64 0] 26)) := (Mod.refl [] w5).alloc _
        have HN6 := Lib.hid hn6
        have HM6 := Lib.hid ((HM4.out.trans ((Mod.ofBelow hb5).mono (by simp))).trans (hm6.mono (by simp)))
        have HR6 := Lib.hid ((HR4.out.mod (Mod.ofBelow hb5) (by simp)).mod hm6 (by simp))
        clear hb5 hn6 hm6 hadd F
        go_upto_region 13 with (fail)
        generalize w5.alloc (.cells #[.int .i64 8, .string B, .string { data := #[] }, .string { data := #[] }, .bool false, .int .i64 (-1), .int .i64 0] 26) = w6 at *
        generalize w5.heap.size = g6 at *
        have k0 := blk_cell HN6.out 0
        have k1 := blk_cell HN6.out 1
        have F6 := run_str (P := Tryz.prog) (HR6.out.cells8 HLb.out) 39 9 5 k k Tryz.underlying39 Tryz.underlying5 Tryz.underlying9 HLl.out.symm
        rw [HBe.out] at F6
        have hBB : (B.toList == B.toList) = true := by simp
        go_wp2_with fail
        go_ret
        exact ⟨rfl, HM6.out.toBelow (Nat.le_refl _) (by have := HG.out; intro x hx; simp at hx; omega)⟩
      by_cases hneg : at_ < 0
      · by_cases h5 : 505 < k
        · have h5' : (510 : Int) < 5 + (k : Int) := by omega
          have hr4 := HR.out
          have hm4 := HM.out
          have hlb : Bytes (List.replicate k 97) := fun x hx => by rw [(List.mem_replicate.1 hx).2]; decide
          have hll : ((List.replicate k (97 : Int))).length = k := by simp
          have hBs : (strOfNums (List.replicate k 97)).size = k := by rw [strOfNums_size, hll]
          obtain ⟨X, hX⟩ : ∃ X, ({ data := #[78, 79, 79, 80, 32] } : ByteArray) ++ strOfNums (List.replicate k 97) = X := ⟨_, rfl⟩
          have hXn : nums X = 78 :: 79 :: 79 :: 80 :: 32 :: (List.replicate k 97) := by
            rw [← hX, noop_str, strOfNums_app, nums_strOfNums]
            · rfl
            · exact (show Bytes [78, 79, 79, 80, 32] by unfold Bytes; decide).append hlb
          have hXs : X.size ≤ 100000 := by rw [← nums_length, hXn]; simp; omega
          have HXp := Lib.hid (show parseC (nums X) = (.zero, 500) by rw [hXn]; exact noop_bad (Or.inl (by simpa using h5)))
          have F := run_str (P := Tryz.prog) (hr4.cells8 hlb) 39 9 5 k k Tryz.underlying39 Tryz.underlying5 Tryz.underlying9 hll.symm
          have hadd := add_text { data := #[78, 79, 79, 80, 32] } (strOfNums (List.replicate k 97)) (by decide) (by rw [hBs]; omega)
          rw [hX] at hadd
          have HR4 := Lib.hid hr4
          have HM4 := Lib.hid hm4
          have HLb := Lib.hid hlb
          have HLl := Lib.hid hll
          have HE4 := Lib.hid (HE.out.mod hm4 (by have := HG.out; have := HE.out.lt; intro x hx; simp at hx; omega))
          have HPa := Lib.hid (fun W (h : Env W) => parsec_any X W h hXs)
          clear hr4 hm4 hlb hll hBs hX hXn hXs
          generalize strOfNums (List.replicate k 97) = B at *
          go_wp2_with fail
          refine (HPa.out _ HE4.out).mono ?_
          rintro e w5 ⟨rfl, hb5⟩
          rw [HXp.out, cd0]
          have hn6 := heap_alloc_new w5 (.cells #[.int .i64 0, .string { data := #[] }, .string { data := #[] }, .string { data := #[] }, .bool false, .int .i64 0, .int .i64 0] 26)
          have hm6 : Mod [] w5 (w5.alloc (.cells #[.int .i64 0, .string { data := #[] }, .string { data := #[] }, .string { data := #[] }, .bool false, .int .i64 0, .int .i64 0] 26)) := (Mod.refl [] w5).alloc _
          have HN6 := Lib.hid hn6
          have HM6 := Lib.hid ((HM4.out.trans ((Mod.ofBelow hb5).mono (by simp))).trans (hm6.mono (by simp)))
          have HR6 := Lib.hid ((HR4.out.mod (Mod.ofBelow hb5) (by simp)).mod hm6 (by simp))
          clear hb5 hn6 hm6 hadd F
          go_upto_region 13 with (fail)
          generalize w5.alloc (.cells #[.int .i64 0, .string { data := #[] }, .string { data := #[] }, .string { data := #[] }, .bool false, .int .i64 0, .int .i64 0] 26) = w6 at *
          generalize w5.heap.size = g6 at *
          have k0 := blk_cell HN6.out 0
          have k1 := blk_cell HN6.out 1
          have k2 := blk_cell HN6.out 2
          have k3 := blk_cell HN6.out 3
          have k4 := blk_cell HN6.out 4
          have k5 := blk_cell HN6.out 5
          have k6 := blk_cell HN6.out 6
          go_wp2_with fail
          go_ret
          exact ⟨rfl, HM6.out.toBelow (Nat.le_refl _) (by have := HG.out; intro x hx; simp at hx; omega)⟩
        have h5' : 5 + (k : Int) ≤ 510 := by omega
        have hr4 := HR.out
        have hm4 := HM.out
        have hlb : Bytes (List.replicate k 97) := fun x hx => by rw [(List.mem_replicate.1 hx).2]; decide
        have hll : ((List.replicate k (97 : Int))).length = k := by simp
        have hBs : (strOfNums (List.replicate k 97)).size = k := by rw [strOfNums_size, hll]
        obtain ⟨X, hX⟩ : ∃ X, ({ data := #[78, 79, 79, 80, 32] } : ByteArray) ++ strOfNums (List.replicate k 97) = X := ⟨_, rfl⟩
        have hXn : nums X = 78 :: 79 :: 79 :: 80 :: 32 :: (List.replicate k 97) := by
          rw [← hX, noop_str, strOfNums_app, nums_strOfNums]
          · rfl
          · exact (show Bytes [78, 79, 79, 80, 32] by unfold Bytes; decide).append hlb
        have hXs : X.size ≤ 100000 := by rw [← nums_length, hXn]; simp; omega
        have HXp := Lib.hid (show parseC (nums X) = (⟨8, (List.replicate k 97), [], [], false, -1, 0⟩, 0) by rw [hXn]; exact noop_ok (by simp; omega) (fill_ok k))
        have F := run_str (P := Tryz.prog) (hr4.cells8 hlb) 39 9 5 k k Tryz.underlying39 Tryz.underlying5 Tryz.underlying9 hll.symm
        have hadd := add_text { data := #[78, 79, 79, 80, 32] } (strOfNums (List.replicate k 97)) (by decide) (by rw [hBs]; omega)
        rw [hX] at hadd
        have HR4 := Lib.hid hr4
        have HM4 := Lib.hid hm4
        have HLb := Lib.hid hlb
        have HLl := Lib.hid hll
        have HE4 := Lib.hid (HE.out.mod hm4 (by have := HG.out; have := HE.out.lt; intro x hx; simp at hx; omega))
        have HPa := Lib.hid (fun W (h : Env W) => parsec_any X W h hXs)
        clear hr4 hm4 hlb hll hBs hX hXn hXs
        obtain ⟨B, hB⟩ : ∃ B, strOfNums (List.replicate k 97) = B := ⟨_, rfl⟩
        rw [hB] at F hadd
        have HBe := Lib.hid hB
        clear hB
        go_wp2_with fail
        refine (HPa.out _ HE4.out).mono ?_
        rintro e w5 ⟨rfl, hb5⟩
        rw [HXp.out, cd8, HBe.out]
        have hn6 := heap_alloc_new w5 (.cells #[.int .i64 8, .string B, .string { data := #[] }, .string { data := #[] }, .bool false, .int .i64 (-1), .int .i64 0] 26)
        have hm6 : Mod [] w5 (w5.alloc (.cells #[.int .i64 8, .string B, .string { data := #[] }, .string { data := #[] }, .bool false, .int .i64 (-1), .int .i64 0] 26)) := (Mod.refl [] w5).alloc _
        have HN6 := Lib.hid hn6
        have HM6 := Lib.hid ((HM4.out.trans ((Mod.ofBelow hb5).mono (by simp))).trans (hm6.mono (by simp)))
        have HR6 := Lib.hid ((HR4.out.mod (Mod.ofBelow hb5) (by simp)).mod hm6 (by simp))
        clear hb5 hn6 hm6 hadd F
        go_upto_region 13 with (fail)
        generalize w5.alloc (.cells #[.int .i64 8, .string B, .string { data := #[] }, .string { data := #[] }, .bool false, .int .i64 (-1), .int .i64 0] 26) = w6 at *
        generalize w5.heap.size = g6 at *
        have k0 := blk_cell HN6.out 0
        have k1 := blk_cell HN6.out 1
        have F6 := run_str (P := Tryz.prog) (HR6.out.cells8 HLb.out) 39 9 5 k k Tryz.underlying39 Tryz.underlying5 Tryz.underlying9 HLl.out.symm
        rw [HBe.out] at F6
        have hBB : (B.toList == B.toList) = true := by simp
        go_wp2_with fail
        go_ret
        exact ⟨rfl, HM6.out.toBelow (Nat.le_refl _) (by have := HG.out; intro x hx; simp at hx; omega)⟩
      have hneg' : 0 ≤ at_ := by omega
      have hbig : (k : Int) ≤ at_ := by omega
      by_cases h5 : 505 < k
      · have h5' : (510 : Int) < 5 + (k : Int) := by omega
        have hr4 := HR.out
        have hm4 := HM.out
        have hlb : Bytes (List.replicate k 97) := fun x hx => by rw [(List.mem_replicate.1 hx).2]; decide
        have hll : ((List.replicate k (97 : Int))).length = k := by simp
        have hBs : (strOfNums (List.replicate k 97)).size = k := by rw [strOfNums_size, hll]
        obtain ⟨X, hX⟩ : ∃ X, ({ data := #[78, 79, 79, 80, 32] } : ByteArray) ++ strOfNums (List.replicate k 97) = X := ⟨_, rfl⟩
        have hXn : nums X = 78 :: 79 :: 79 :: 80 :: 32 :: (List.replicate k 97) := by
          rw [← hX, noop_str, strOfNums_app, nums_strOfNums]
          · rfl
          · exact (show Bytes [78, 79, 79, 80, 32] by unfold Bytes; decide).append hlb
        have hXs : X.size ≤ 100000 := by rw [← nums_length, hXn]; simp; omega
        have HXp := Lib.hid (show parseC (nums X) = (.zero, 500) by rw [hXn]; exact noop_bad (Or.inl (by simpa using h5)))
        have F := run_str (P := Tryz.prog) (hr4.cells8 hlb) 39 9 5 k k Tryz.underlying39 Tryz.underlying5 Tryz.underlying9 hll.symm
        have hadd := add_text { data := #[78, 79, 79, 80, 32] } (strOfNums (List.replicate k 97)) (by decide) (by rw [hBs]; omega)
        rw [hX] at hadd
        have HR4 := Lib.hid hr4
        have HM4 := Lib.hid hm4
        have HLb := Lib.hid hlb
        have HLl := Lib.hid hll
        have HE4 := Lib.hid (HE.out.mod hm4 (by have := HG.out; have := HE.out.lt; intro x hx; simp at hx; omega))
        have HPa := Lib.hid (fun W (h : Env W) => parsec_any X W h hXs)
        clear hr4 hm4 hlb hll hBs hX hXn hXs
        generalize strOfNums (List.replicate k 97) = B at *
        go_wp2_with fail
        refine (HPa.out _ HE4.out).mono ?_
        rintro e w5 ⟨rfl, hb5⟩
        rw [HXp.out, cd0]
        have hn6 := heap_alloc_new w5 (.cells #[.int .i64 0, .string { data := #[] }, .string { data := #[] }, .string { data := #[] }, .bool false, .int .i64 0, .int .i64 0] 26)
        have hm6 : Mod [] w5 (w5.alloc (.cells #[.int .i64 0, .string { data := #[] }, .string { data := #[] }, .string { data := #[] }, .bool false, .int .i64 0, .int .i64 0] 26)) := (Mod.refl [] w5).alloc _
        have HN6 := Lib.hid hn6
        have HM6 := Lib.hid ((HM4.out.trans ((Mod.ofBelow hb5).mono (by simp))).trans (hm6.mono (by simp)))
        have HR6 := Lib.hid ((HR4.out.mod (Mod.ofBelow hb5) (by simp)).mod hm6 (by simp))
        clear hb5 hn6 hm6 hadd F
        go_upto_region 13 with (fail)
        generalize w5.alloc (.cells #[.int .i64 0, .string { data := #[] }, .string { data := #[] }, .string { data := #[] }, .bool false, .int .i64 0, .int .i64 0] 26) = w6 at *
        generalize w5.heap.size = g6 at *
        have k0 := blk_cell HN6.out 0
        have k1 := blk_cell HN6.out 1
        have k2 := blk_cell HN6.out 2
        have k3 := blk_cell HN6.out 3
        have k4 := blk_cell HN6.out 4
        have k5 := blk_cell HN6.out 5
        have k6 := blk_cell HN6.out 6
        go_wp2_with fail
        go_ret
        exact ⟨rfl, HM6.out.toBelow (Nat.le_refl _) (by have := HG.out; intro x hx; simp at hx; omega)⟩
      have h5' : 5 + (k : Int) ≤ 510 := by omega
      have hr4 := HR.out
      have hm4 := HM.out
      have hlb : Bytes (List.replicate k 97) := fun x hx => by rw [(List.mem_replicate.1 hx).2]; decide
      have hll : ((List.replicate k (97 : Int))).length = k := by simp
      have hBs : (strOfNums (List.replicate k 97)).size = k := by rw [strOfNums_size, hll]
      obtain ⟨X, hX⟩ : ∃ X, ({ data := #[78, 79, 79, 80, 32] } : ByteArray) ++ strOfNums (List.replicate k 97) = X := ⟨_, rfl⟩
      have hXn : nums X = 78 :: 79 :: 79 :: 80 :: 32 :: (List.replicate k 97) := by
        rw [← hX, noop_str, strOfNums_app, nums_strOfNums]
        · rfl
        · exact (show Bytes [78, 79, 79, 80, 32] by unfold Bytes; decide).append hlb
      have hXs : X.size ≤ 100000 := by rw [← nums_length, hXn]; simp; omega
      have HXp := Lib.hid (show parseC (nums X) = (⟨8, (List.replicate k 97), [], [], false, -1, 0⟩, 0) by rw [hXn]; exact noop_ok (by simp; omega) (fill_ok k))
      have F := run_str (P := Tryz.prog) (hr4.cells8 hlb) 39 9 5 k k Tryz.underlying39 Tryz.underlying5 Tryz.underlying9 hll.symm
      have hadd := add_text { data := #[78, 79, 79, 80, 32] } (strOfNums (List.replicate k 97)) (by decide) (by rw [hBs]; omega)
      rw [hX] at hadd
      have HR4 := Lib.hid hr4
      have HM4 := Lib.hid hm4
      have HLb := Lib.hid hlb
      have HLl := Lib.hid hll
      have HE4 := Lib.hid (HE.out.mod hm4 (by have := HG.out; have := HE.out.lt; intro x hx; simp at hx; omega))
      have HPa := Lib.hid (fun W (h : Env W) => parsec_any X W h hXs)
      clear hr4 hm4 hlb hll hBs hX hXn hXs
      obtain ⟨B, hB⟩ : ∃ B, strOfNums (List.replicate k 97) = B := ⟨_, rfl⟩
      rw [hB] at F hadd
      have HBe := Lib.hid hB
      clear hB
      go_wp2_with fail
      refine (HPa.out _ HE4.out).mono ?_
      rintro e w5 ⟨rfl, hb5⟩
      rw [HXp.out, cd8, HBe.out]
      have hn6 := heap_alloc_new w5 (.cells #[.int .i64 8, .string B, .string { data := #[] }, .string { data := #[] }, .bool false, .int .i64 (-1), .int .i64 0] 26)
      have hm6 : Mod [] w5 (w5.alloc (.cells #[.int .i64 8, .string B, .string { data := #[] }, .string { data := #[] }, .bool false, .int .i64 (-1), .int .i64 0] 26)) := (Mod.refl [] w5).alloc _
      have HN6 := Lib.hid hn6
      have HM6 := Lib.hid ((HM4.out.trans ((Mod.ofBelow hb5).mono (by simp))).trans (hm6.mono (by simp)))
      have HR6 := Lib.hid ((HR4.out.mod (Mod.ofBelow hb5) (by simp)).mod hm6 (by simp))
      clear hb5 hn6 hm6 hadd F
      go_upto_region 13 with (fail)
      generalize w5.alloc (.cells #[.int .i64 8, .string B, .string { data := #[] }, .string { data := #[] }, .bool false, .int .i64 (-1), .int .i64 0] 26) = w6 at *
      generalize w5.heap.size = g6 at *
      have k0 := blk_cell HN6.out 0
      have k1 := blk_cell HN6.out 1
      have F6 := run_str (P := Tryz.prog) (HR6.out.cells8 HLb.out) 39 9 5 k k Tryz.underlying39 Tryz.underlying5 Tryz.underlying9 HLl.out.symm
      rw [HBe.out] at F6
      have hBB : (B.toList == B.toList) = true := by simp
      go_wp2_with fail
      go_ret
      exact ⟨rfl, HM6.out.toBelow (Nat.le_refl _) (by have := HG.out; intro x hx; simp at hx; omega)⟩
end Go.Proofs.YtebncajpamaodaaGreatDoor
