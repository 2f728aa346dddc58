import Derived.Test.YtbhdlclaooohfaaGreatDoorRows
import Derived.Test.YtbhdlclaooohfaaGreatDoorCrcP
import Derived.WalkLawsBesides
import Derived.WalkSpells
import Derived.OpenShut
import Derived.Handy
import Derived.Lib.Hide
import Derived.Lib.LaidTab
import Derived.Test.YtbhdlclaooohfaaGreatDoorBlk
import Derived.Deep.WholeRow
import Derived.Deep.LoopGhost
import Derived.Deep.RegionWith
import Derived.Lib.SmallJoins
import Derived.LaidMore
/- Contracts of package crc and of its reference: steps, half bytes, images. -/
namespace Go.Proofs.YtbhdlclaooohfaaGreatDoor
open Go.ChangeShapes Go.WideShapes Go.ChangeAt Go.RowKit
set_option linter.unusedVariables false
set_option linter.unusedSimpArgs false

theorem ret_int {k : IntKind} {a b : Int} (h : a = b) : Ending.returned (.int k a) = .returned (.int k b) := by rw [h]

theorem U_and1 (s : St) : bits .and .u32 (U s) 1 = U s % 2 := (U_and s 1#32).trans (U_low s 1 (by decide))
theorem U_and15 (s : St) : bits .and .u32 (U s) 15 = U s % 16 := (U_and s 15#32).trans (U_low s 4 (by decide))

theorem rstep_any (s : St) (w : World) :
    Calls Tryz.prog 95 #[.int .u32 (U s)] w fun e w' => e = .returned (.int .u32 (U (stp s))) ∧ w = w' := by
  have hb := U_bounds s
  have Hfin := Lib.hid (U_stp s)
  by_cases h : U s % 2 = 1
  · go_enter Tryz.func95, Tryz.ntmps95
    go_wp2
    go_ret
    exact ⟨ret_int (by rw [Hfin.out, if_pos h]), rfl⟩
  · go_enter Tryz.func95, Tryz.ntmps95
    go_wp2
    go_ret
    exact ⟨ret_int (by rw [Hfin.out, if_neg h]), rfl⟩

/-- the table of half bytes stands -/
def Halves (w : World) : Prop := ∀ i : Nat, i < 16 → w.cell? ⟨0, i, none⟩ = some (.int .u32 (tab.getD i 0))

theorem half_any (s : St) (w : World) (ht : Halves w) :
    Calls Tryz.prog 82 #[.int .u32 (U s)] w fun e w' => e = .returned (.int .u32 (U (steps 4 s))) ∧ w = w' := by
  have hb := U_bounds s
  have Hfin := Lib.hid (U_four s)
  have ha := U_and15 s
  have hc := ht (U s % 16).toNat (by omega)
  have h16 : 0 ≤ U s % 16 ∧ U s % 16 < 16 := by omega
  generalize U s % 16 = y at *
  clear ht
  generalize tab.getD y.toNat 0 = x at *
  go_enter Tryz.func82, Tryz.ntmps82
  go_wp2
  go_ret
  exact ⟨ret_int (by rw [Hfin.out, show (2:Int) ^ 4 = 16 from by decide]), rfl⟩

end Go.Proofs.YtbhdlclaooohfaaGreatDoor

/- Arrays of 32 numbers by value: what imagesFrom, of, twice and byteSteps do. -/
namespace Go.Proofs.YtbhdlclaooohfaaGreatDoor
open Go.ChangeShapes Go.WideShapes Go.ChangeAt Go.RowKit
set_option linter.unusedVariables false
set_option linter.unusedSimpArgs false

/-- numbers as an array's cells -/
def arr (l : List Int) : Array Value := (l.map (Value.int .u32)).toArray
def zeros : List Int := List.replicate 32 0

theorem zeros_length : zeros.length = 32 := rfl
theorem arr_one (l : List Int) : (arr l).all (·.oneCell') = true := by
  rw [Array.all_eq_true_iff_forall_mem]
  intro v hv
  simp [arr] at hv
  obtain ⟨x, _, rfl⟩ := hv
  rfl
theorem arr_size (l : List Int) : (arr l).size = l.length := by simp [arr]

section
variable {ops : Array Oper} {rest : List Oper} {o : Oper} {a : Act} {w : World} {Q : Exit → Act → World → Prop}
end
/-- the images of n steps, as numbers -/
def imgL (n : Nat) : List Int := (List.range 32).map fun k => U (img n k)
theorem imgL_length (n : Nat) : (imgL n).length = 32 := by simp [imgL]
/-- those of the i highest bits, else 0 -/
def imgPart (n i : Nat) : List Int := (List.range 32).map fun k => if 32 ≤ k + i then U (img n k) else 0
theorem imgPart_length (n i : Nat) : (imgPart n i).length = 32 := by simp [imgPart]
theorem imgPart_zero (n : Nat) : imgPart n 0 = zeros := by
  apply List.ext_getElem
  · simp [imgPart, zeros]
  · intro k h1 h2
    simp [imgPart] at h1
    simp only [imgPart, zeros, List.getElem_map, List.getElem_range, List.getElem_replicate]
    rw [if_neg (by omega)]
theorem imgPart_full (n : Nat) : imgPart n 32 = imgL n := by
  apply List.ext_getElem
  · simp [imgPart, imgL]
  · intro k h1 h2
    simp [imgPart, imgL]
theorem imgPart_step (n i : Nat) (hi : i < 32) : (imgPart n i).set (31 - i) (U (steps i (img n 31))) = imgPart n (i + 1) := by
  rw [img_from n i hi]
  apply List.ext_getElem
  · simp [imgPart]
  · intro k h1 h2
    simp [imgPart] at h1
    rw [List.getElem_set]
    by_cases hk : 31 - i = k
    · rw [if_pos hk]
      simp only [imgPart, List.getElem_map, List.getElem_range]
      rw [if_pos (by omega), hk]
    · rw [if_neg hk]
      simp only [imgPart, List.getElem_map, List.getElem_range]
      by_cases h3 : 32 ≤ k + i
      · rw [if_pos h3, if_pos (by omega)]
      · rw [if_neg h3, if_neg (by omega)]

theorem ptr_alloc (w : World) (o : Obj) : Value.pointer (some ⟨(w.alloc o).heap.size, 0, none⟩) = Value.pointer (some ⟨w.heap.size + 1, 0, none⟩) := by simp

theorem shr_bit (s : St) (n : Nat) : bits .and .u32 (U s / 2 ^ n) 1 = if s.getLsbD n then 1 else 0 := by
  rw [U_shr, U_and1, U_bit, BitVec.getLsbD_ushiftRight, Nat.add_zero]
theorem imgL_get (m n : Nat) (hn : n < 32) : (imgL m).getD n 0 = U (img m n) := by
  simp [imgL, hn]

theorem img_twice (m : Nat) : steps m (img m 31) = img (m + m) 31 := by
  unfold img; rw [steps_add]

end Go.Proofs.YtbhdlclaooohfaaGreatDoor

/- Zeros and More, of the program and of the reference. -/
namespace Go.Proofs.YtbhdlclaooohfaaGreatDoor
open Go.ChangeShapes Go.WideShapes Go.ChangeAt Go.RowKit
set_option linter.unusedVariables false
set_option linter.unusedSimpArgs false

def zerosV (s : St) (n : Int) : St := ~~~(steps (8 * n.toNat) (~~~s))

theorem U_allOnes (s : St) : bits .xor .u32 IntKind.u32.max (U s) = U (~~~s) := by
  have e : IntKind.u32.max = U (BitVec.allOnes 32) := by decide
  rw [e, U_xor, BitVec.allOnes_xor]
theorem i64_in63 (n : Int) (h0 : 0 ≤ n) (h1 : n < 2 ^ 63) : IntKind.i64.wrap n = n := IntWalk.i64_in n (by omega)
theorem and_odd (x : Int) (h0 : 0 ≤ x) (h1 : x ≤ 9223372036854775807) : bits .and .i64 x 1 = x % 2 :=
  bits_mask .i64 63 (by decide) i64_in63 1 (by decide) x h0 (by omega)

theorem half_odd (p y : Nat) : p + (p + p) * y = p * (2 * y + 1) := by
  rw [Nat.mul_add, Nat.mul_one, Nat.add_mul, ← Nat.mul_assoc, Nat.mul_comm p 2, Nat.two_mul, Nat.add_mul]; omega
theorem half_even (p y : Nat) : (p + p) * y = p * (2 * y) := by
  rw [← Nat.mul_assoc, Nat.mul_comm p 2, Nat.two_mul]
theorem odd_step (s : St) (d p N : Nat) (x : Int) (hx : 0 < x) (h : d + p * x.toNat = N) (ho : x % 2 = 1) :
    steps p (steps d s) = steps (d + p) s ∧ (d + p) + (p + p) * (x / 2).toNat = N := by
  refine ⟨(steps_add d p s).symm, ?_⟩
  have e : x.toNat = 2 * (x / 2).toNat + 1 := by omega
  rw [e, ← half_odd] at h
  omega
theorem even_step (d p N : Nat) (x : Int) (hx : 0 < x) (h : d + p * x.toNat = N) (ho : x % 2 = 0) : d + (p + p) * (x / 2).toNat = N := by
  have e : x.toNat = 2 * (x / 2).toNat := by omega
  rw [e, ← half_even] at h
  exact h

/-- the next byte as a state -/
theorem byte_state {l : List Int} (hb : Bytes l) (n : Nat) (hn : n < l.length) (s : St) :
    ∃ t : St, l.getD n 0 = U t ∧ (0 ≤ U t ∧ U t < 256) ∧ feed s (l.take (n + 1)) = steps 8 (feed s (l.take n) ^^^ t) := by
  have hy := hb.getD n
  refine ⟨BitVec.ofNat 32 (l.getD n 0).toNat, ?_, ?_, ?_⟩
  · rw [U_ofNat _ (by omega)]; omega
  · rw [U_ofNat _ (by omega)]; omega
  · have e : l.take (n + 1) = l.take n ++ [l.getD n 0] := by
      rw [List.take_add_one, List.getElem?_eq_getElem hn]
      simp [List.getD, hn]
    rw [e, feed_snoc]

theorem more_any (s : St) (l : List Int) (a : Option Addr) (cap : Nat) (w : World) (hc : Cells8 w a l) (hl : l.length ≤ 9223372036854775807) (ht : Halves w) :
    Calls Tryz.prog 71 #[.int .u32 (U s), .slice a l.length cap] w fun e w' => e = .returned (.int .u32 (U (sumV s l))) ∧ w = w' := by
  have hb := U_bounds s
  have hn := U_allOnes s
  have HT := Lib.hid ht
  have HC := Lib.hid hc
  clear ht hc
  go_enter Tryz.func71, Tryz.ntmps71
  go_wp2_with fail
  go_loop [5, 12] (fun t i => ∃ n : Nat, n ≤ l.length ∧ i = .int .i64 n ∧ t = .int .u32 (U (feed (~~~s) (l.take n)))) (fun _ i => (l.length - intOf i).toNat)
  case atStart => exact ⟨0, by omega, rfl, rfl⟩
  case round =>
    obtain ⟨n, hn1, rfl, rfl⟩ := hrel
    by_cases hlt : n < l.length
    · obtain ⟨b, o, rfl, _⟩ := HC.out.addr (by omega)
      have hcell := HC.out.at n hlt
      obtain ⟨t, e1, hy, e2⟩ := byte_state HC.out.1 n hlt (~~~s)
      rw [e1] at hcell
      have E2 := Lib.hid e2
      clear e1 e2
      have hx := U_xor (feed (~~~s) (l.take n)) t
      generalize feed (~~~s) (l.take n) = st at *
      have hst := (steps_add 4 4 (st ^^^ t)).symm
      have HST := Lib.hid hst
      clear hst
      go_wp2_with (go_at_call 82; refine (half_any _ w HT.out).mono ?_; rintro e w' ⟨rfl, rfl⟩)
      go_round
      case rel => exact ⟨n + 1, by omega, by go_num, by rw [E2.out, HST.out]⟩
      case measure => simp [intOf]; omega
    · obtain rfl : n = l.length := by omega
      have Hf : Hid (sumV s l = ~~~(feed (~~~s) l)) := rfl
      have hf := U_allOnes (feed (~~~s) l)
      rw [List.take_length]
      go_wp2_with fail
      go_ret
      exact ⟨ret_int (by rw [Hf.out]), rfl⟩

theorem rmore_any (s : St) (l : List Int) (a : Option Addr) (cap : Nat) (w : World) (hc : Cells8 w a l) (hl : l.length ≤ 9223372036854775807) :
    Calls Tryz.prog 87 #[.int .u32 (U s), .slice a l.length cap] w fun e w' => e = .returned (.int .u32 (U (sumV s l))) ∧ w = w' := by
  have hb := U_bounds s
  have hn := U_not s
  have HC := Lib.hid hc
  clear hc
  go_enter Tryz.func87, Tryz.ntmps87
  go_wp2_with fail
  go_loop [5, 6] (fun t i => ∃ n : Nat, n ≤ l.length ∧ i = .int .i64 n ∧ t = .int .u32 (U (feed (~~~s) (l.take n)))) (fun _ i => (l.length - intOf i).toNat)
  case atStart => exact ⟨0, by omega, rfl, rfl⟩
  case round =>
    obtain ⟨n, hn1, rfl, rfl⟩ := hrel
    by_cases hlt : n < l.length
    · obtain ⟨b, o, rfl, _⟩ := HC.out.addr (by omega)
      have hcell := HC.out.at n hlt
      obtain ⟨t, e1, hy, e2⟩ := byte_state HC.out.1 n hlt (~~~s)
      rw [e1] at hcell
      have E2 := Lib.hid e2
      clear e1 e2
      have hx := U_xor (feed (~~~s) (l.take n)) t
      have HN := Lib.hid hn
      clear hn
      generalize feed (~~~s) (l.take n) = st at *
      go_wp2_with fail
      go_loop [5, 7] (fun v i => ∃ k : Nat, k ≤ 8 ∧ i = .int .i64 k ∧ v = .int .u32 (U (steps k (st ^^^ t)))) (fun _ i => (8 - intOf i).toNat)
      case atStart => exact ⟨0, by omega, rfl, rfl⟩
      case round =>
        obtain ⟨k, hk, rfl, rfl⟩ := hrel
        by_cases hk8 : k < 8
        · have HS := Lib.hid (steps_succ k (st ^^^ t))
          go_wp2_with (go_at_call 95; refine (rstep_any _ w).mono ?_; rintro e w' ⟨rfl, rfl⟩)
          go_round
          case rel => exact ⟨k + 1, by omega, by go_num, by rw [HS.out]⟩
          case measure => simp [intOf]; omega
        · obtain rfl : k = 8 := by omega
          go_wp2_with fail
          go_round
          case rel => exact ⟨n + 1, by omega, by go_num, by rw [E2.out]⟩
          case measure => simp [intOf]; omega
    · obtain rfl : n = l.length := by omega
      have Hf : Hid (sumV s l = ~~~(feed (~~~s) l)) := rfl
      have hf := U_not (feed (~~~s) l)
      have hfb := U_bounds (feed (~~~s) l)
      rw [List.take_length]
      go_wp2_with fail
      go_ret
      exact ⟨ret_int (by rw [Hf.out]), rfl⟩
end Go.Proofs.YtbhdlclaooohfaaGreatDoor

/- Of, Same; what the document tells by example. -/
namespace Go.Proofs.YtbhdlclaooohfaaGreatDoor
open Go.ChangeShapes Go.WideShapes Go.ChangeAt Go.RowKit
set_option linter.unusedVariables false
set_option linter.unusedSimpArgs false

theorem U_zero : (0 : Int) = U 0#32 := by decide
theorem of_any' (l : List Int) (a : Option Addr) (cap : Nat) (w : World) (hc : Cells8 w a l) (hl : l.length ≤ 9223372036854775807) (ht : Halves w) :
    Calls Tryz.prog 72 #[.slice a l.length cap] w fun e w' => e = .returned (.int .u32 (U (sumV 0#32 l))) ∧ w = w' := by
  have HM := Lib.hid (more_any 0#32 l a cap w hc hl ht)
  rw [← U_zero] at HM
  clear hc ht
  go_enter Tryz.func72, Tryz.ntmps72
  go_wp2_with (go_at_call 71; refine HM.out.mono ?_; rintro e w' ⟨rfl, rfl⟩)
  go_ret
  exact ⟨rfl, rfl⟩

theorem rof_any (l : List Int) (a : Option Addr) (cap : Nat) (w : World) (hc : Cells8 w a l) (hl : l.length ≤ 9223372036854775807) :
    Calls Tryz.prog 78 #[.slice a l.length cap] w fun e w' => e = .returned (.int .u32 (U (sumV 0#32 l))) ∧ w = w' := by
  have HM := Lib.hid (rmore_any 0#32 l a cap w hc hl)
  rw [← U_zero] at HM
  clear hc
  go_enter Tryz.func78, Tryz.ntmps78
  go_wp2_with (go_at_call 87; refine HM.out.mono ?_; rintro e w' ⟨rfl, rfl⟩)
  go_ret
  exact ⟨rfl, rfl⟩

/-- a new row of bytes -/
theorem Cells8.newRow (w : World) (l : List Int) (hb : Bytes l) (t : TypeId) (fr : Nat × Nat) : Cells8 (w.alloc (.cells (u8s l).toArray t fr)) (some ⟨w.heap.size, 0, none⟩) l := by
  refine ⟨hb, ?_⟩
  by_cases h : l = []
  · exact .inl h
  · refine .inr ⟨_, _, rfl, fun i hi => ?_⟩
    rw [cell_of_row _ _ _ _ _ _ (heap_alloc_new w _)]
    simp [u8s, hi]
theorem Halves.mod {F : List Nat} {w w' : World} (h : Halves w) (hm : Mod F w w') (h0 : 0 ∉ F) : Halves w' := fun i hi => hm.cell (h i hi) h0

def nums9 : List Int := [49, 50, 51, 52, 53, 54, 55, 56, 57]
def nums4 : List Int := [49, 50, 51, 52]
def nums5 : List Int := [53, 54, 55, 56, 57]
theorem bytes9 : Bytes nums9 := by intro x hx; simp [nums9] at hx; omega
theorem bytes4 : Bytes nums4 := by intro x hx; simp [nums4] at hx; omega
theorem bytes5 : Bytes nums5 := by intro x hx; simp [nums5] at hx; omega
def sum9 : St := 3421780262#32
theorem sum_nums9 : sumV 0#32 nums9 = sum9 := by decide +kernel
theorem sum_nums45 : sumV (sumV 0#32 nums4) nums5 = sum9 := by decide +kernel
theorem sum_nil : sumV 0#32 [] = 0#32 := by decide
theorem U_sum9 : U sum9 = 3421780262 := by decide

end Go.Proofs.YtbhdlclaooohfaaGreatDoor

/- What the rows' condition on the table of half bytes gives the walks. -/
namespace Go.Proofs.YtbhdlclaooohfaaGreatDoor
open Go.ChangeShapes Go.WideShapes Go.ChangeAt Go.RowKit
set_option linter.unusedVariables false

theorem gHalves : Tryz.prog.globalNamed "pigeonhole/crc.halves" = some 0 := by kernel_rfl
theorem tHalves : (Tryz.prog.globals[0]?).map (·.type) = some 133 := by kernel_rfl
abbrev Laid (w : World) : Prop := Halves w
theorem of_laid {W : World} (h : laidMetH Tryz.prog [("pigeonhole/crc.halves", Rows.laid_pigeonhole_crc_halves)] W) : Laid W := by
  rw [MakeChecks.laidMetH_plain _ _ _ (by kernel_rfl)] at h
  have hT : Lib.TabIs Tryz.prog W "pigeonhole/crc.halves" .u32 tab :=
    Lib.tabIs_of_head (rest := []) gHalves tHalves Tryz.underlying133 Tryz.underlying119 (by kernel_rfl) (by kernel_rfl) h
  exact fun i hi => hT.cell gHalves i hi
/-- a row of bytes that came in -/
theorem row_in {w : World} {a : Option Addr} {len cap : Nat} {z : List Int}
    (h : (a = none ∧ len = 0 ∧ cap = 0 ∧ z = []) ∨ ∃ x, a = some x ∧ len ≤ cap ∧ cap ≤ maxLen ∧ z.length = cap ∧ (∀ i, i < z.length → w.cell? (x.add i) = some (.int .u8 (z.getD i 0))) ∧ ∀ n ∈ z, (Lit.int .u8 n).wf = true) :
    ∃ l, Cells8 w a l ∧ len = l.length ∧ l.length ≤ 9223372036854775807 := by
  rcases h with ⟨rfl, rfl, rfl, rfl⟩ | ⟨y, rfl, h1, h2, h3, h4, h5⟩
  · exact ⟨[], Cells8.nil _ _, rfl, by simp⟩
  · exact row8 h1 h2 h3 h4 h5
theorem u32_in {v : Int} (h : (Lit.int .u32 v).wf = true) : ∃ s : St, v = U s := by
  have b : 0 ≤ v ∧ v ≤ 4294967295 := by simpa [Lit.wf, IntKind.min, IntKind.max, IntKind.signed, IntKind.bits] using h
  exact U_of v b.1 (by omega)
end Go.Proofs.YtbhdlclaooohfaaGreatDoor

