import Derived.Test.YthcgnnhfkejglaaGreatDoorCnE
import Derived.Laws.Concat
import Derived.Test.YthcgnnhfkejglaaGreatDoorCmI
import Derived.Lib.ItoaNum
import Derived.Lib.ItoaLen
/- The reference's digits. -/
namespace Go.Proofs.YthcgnnhfkejglaaGreatDoor
open Go.Maps Go.Shelf Go.ChangeShapes Go.WideShapes Go.ChangeAt Go.RowKit
set_option linter.unusedVariables false
set_option linter.unusedSimpArgs false

/-- a number's digits -/
def digL (n : Nat) : List Int := if h : n < 10 then [48 + (n : Int)] else digL (n / 10) ++ [48 + ((n % 10 : Nat) : Int)]
termination_by n
decreasing_by omega
def preL (m : Nat) : List Int := if m < 10 then [] else digL (m / 10)
theorem digL_pre (m : Nat) : digL m = preL m ++ [48 + ((m % 10 : Nat) : Int)] := by
  rw [digL]
  unfold preL
  by_cases h : m < 10
  · rw [dif_pos h, if_pos h, Nat.mod_eq_of_lt h]; rfl
  · rw [dif_neg h, if_neg h]
theorem digL_len : ∀ (k n : Nat), n < 10 ^ (k + 1) → (digL n).length ≤ k + 1
  | 0, n, h => by rw [digL, dif_pos (by omega)]; simp
  | k + 1, n, h => by
    rw [digL]
    by_cases h1 : n < 10
    · rw [dif_pos h1]; simp
    · rw [dif_neg h1, List.length_append]
      have h2 : n / 10 < 10 ^ (k + 1) := by
        rw [Nat.div_lt_iff_lt_mul (by decide)]
        rw [Nat.pow_succ] at h; exact h
      have := digL_len k (n / 10) h2
      simp; omega
theorem digL_bytes (n : Nat) : Bytes (digL n) := by
  induction n using Nat.strongRecOn with
  | _ n ih =>
    rw [digL]
    by_cases h1 : n < 10
    · rw [dif_pos h1]; intro x hx; simp at hx; omega
    · rw [dif_neg h1]
      refine (ih (n / 10) (by omega)).append ?_
      intro x hx; simp at hx; omega
set_option maxRecDepth 100000 in
theorem one_str (d : Int) (h0 : 0 ≤ d) (h1 : d < 256) (w : World) : (convert 51 9 (.slice (some ⟨w.heap.size, 0, none⟩) 1 1)).run Tryz.prog (w.alloc (.cells #[.int .u8 d] 5)) = .ok (.string (strOfNums [d])) (w.alloc (.cells #[.int .u8 d] 5)) :=
  run_str (P := Tryz.prog) (l := [d]) ⟨by intro x hx; simp at hx; omega, .inr ⟨_, 0, rfl, fun i hi => by
    have : i = 0 := by simpa using hi
    subst this
    exact blk_cell (heap_alloc_new w _) 0⟩⟩ 51 9 5 1 1 Tryz.underlying51 Tryz.underlying5 Tryz.underlying9 rfl

theorem add_str2 (x y : ByteArray) (hx : x.size ≤ 1000000) (hy : y.size ≤ 1000000) : ∀ W, (Op.stringOp .add x y).run Tryz.prog W = .ok (.string (x ++ y)) W := fun W => run_string_add_sum W x y (by omega)

set_option maxRecDepth 100000 in
set_option maxHeartbeats 4000000 in
theorem rdigits_any (N : Nat) (w : World) (hN : N ≤ 9223372036854775807) : Calls Tryz.prog 11 #[.int .i64 N] w (StrP (digL N) w) := by
  have HLen := Lib.hid (digL_len 19 N (by omega))
  have HPre := Lib.hid (digL_pre N)
  have hNI : (N : Int) ≤ 9223372036854775807 := by omega
  go_enter Tryz.func11, Tryz.ntmps11
  have F := one_str (48 + (N : Int) % 10) (by omega) (by omega) w
  have HM0 := Lib.hid (show Mod [] w (w.alloc (.cells #[.int .u8 (48 + (N : Int) % 10)] 5)) from (Mod.refl [] w).alloc _)
  go_wp2_with fail
  generalize w.alloc (.cells #[.int .u8 (48 + (N : Int) % 10)] 5) = w0 at *
  clear F
  go_loopw [0, 3] (fun n s wr => ∃ (m : Nat) (S : List Int), n = .int .i64 m ∧ s = .string (strOfNums S) ∧ m ≤ N ∧ digL N = preL m ++ S ∧ Mod [] w wr) (fun n _ _ => (intOf n).toNat)
  case atStart => exact ⟨N, _, rfl, rfl, Nat.le_refl _, by rw [HPre.out]; simp, HM0.out⟩
  case round =>
    obtain ⟨m, S, rfl, rfl, hm, hS, hmod⟩ := hrel
    have HS := Lib.hid hS
    have HM := Lib.hid hmod
    have hmI : (m : Int) ≤ 9223372036854775807 := by omega
    have hm0 : (0 : Int) ≤ (m : Int) := by omega
    have hl := HLen.out
    rw [hS, List.length_append] at hl
    clear hS hmod
    by_cases h10 : m < 10
    · have hI : (m : Int) < 10 := by omega
      have HR := Lib.hid (show digL N = S by rw [HS.out]; unfold preL; rw [if_pos h10]; rfl)
      clear hl h10
      go_wp2_with fail
      go_ret
      rw [HR.out]
      exact ⟨rfl, HM.out.toBelow (Nat.le_refl _) (by simp)⟩
    · have hI : (10 : Int) ≤ (m : Int) := by omega
      have F := one_str (48 + (m : Int) / 10 % 10) (by omega) (by omega) wr
      have hadd := add_str2 (strOfNums [48 + (m : Int) / 10 % 10]) (strOfNums S) (by rw [strOfNums_size]; simp) (by rw [strOfNums_size]; omega)
      rw [strOfNums_append] at hadd
      have HMn := Lib.hid (show Mod [] w (wr.alloc (.cells #[.int .u8 (48 + (m : Int) / 10 % 10)] 5)) from HM.out.alloc _)
      have HSn := Lib.hid (show digL N = preL (m / 10) ++ ([48 + (m : Int) / 10 % 10] ++ S) by
        rw [HS.out]
        have e : preL m = digL (m / 10) := by unfold preL; rw [if_neg h10]
        rw [e, digL_pre (m / 10), List.append_assoc]
        simp)
      clear hl h10
      go_wp2_with fail
      go_roundw
      case rel => exact ⟨m / 10, _, by go_num, rfl, by omega, HSn.out, HMn.out⟩
      case measure => simp [intOf]; omega
end Go.Proofs.YthcgnnhfkejglaaGreatDoor

/- CmdTexts: mathematics: what a line that is read tells of its numbers; a line without its path; a number's digits in the library's words. -/
namespace Go.Proofs.YthcgnnhfkejglaaGreatDoor
open Go.Maps Go.Shelf Go.ChangeShapes Go.WideShapes Go.ChangeAt Go.RowKit
set_option linter.unusedVariables false
set_option linter.unusedSimpArgs false

/-- what may stand in a command that was read -/
def NumOK (sz bd : Int) : Prop := -1 ≤ sz ∧ (bd = 0 ∨ bd = 7 ∨ bd = 8)
theorem read_noB {t : List Int} {null : Bool} (hN : ¬ (null = true ∧ t.take 2 = [60, 62])) (h : ptL t = none) : readL t null = ([], [], 0, 3) := by unfold readL; rw [if_neg hN, h]
theorem paramL_num {v : Nat} {seen : List (List Int)} {sz bd : Int} {p : List Int} (h : NumOK sz bd) : NumOK (paramL v seen sz bd p).1 (paramL v seen sz bd p).2.1 := by
  rw [paramL_R]
  unfold paramR
  split
  · exact h
  · split
    · exact h
    · split
      · rcases sizeS_R sz (cutR 61 p) with ⟨_, e⟩ | ⟨h0, _, e⟩
        · rw [e]; exact h
        · rw [e]; exact ⟨by simp only; omega, h.2⟩
      · split
        · rw [bodyS_R]
          split
          · exact ⟨h.1, Or.inr (Or.inl rfl)⟩
          · split
            · exact ⟨h.1, Or.inr (Or.inr rfl)⟩
            · exact h
        · exact h
theorem paramsF_num {v : Nat} : ∀ {ps : List (List Int)} {seen : List (List Int)} {sz bd : Int}, NumOK sz bd → NumOK (paramsF v ps seen sz bd).1 (paramsF v ps seen sz bd).2.1
  | [], seen, sz, bd, h => h
  | p :: ps, seen, sz, bd, h => by
    have h1 := paramL_num (v := v) (seen := seen) (p := p) h
    unfold paramsF
    split
    · exact paramsF_num h1
    · exact h1
theorem paramsL_num (v : Nat) (t : List Int) : NumOK (paramsL v t).1 (paramsL v t).2.1 := by
  have h0 : NumOK (-1) 0 := ⟨by decide, Or.inl rfl⟩
  unfold paramsL
  split
  · exact paramsF_num h0
  · exact h0
theorem parseC_num {t : List Int} {d : CmdD} (h : parseC t = (d, 0)) : NumOK d.size d.body := by
  have h0 : NumOK (-1) 0 := ⟨by decide, Or.inl rfl⟩
  unfold parseC at h
  split at h
  · cases h
  · split at h
    · cases h
    · unfold restC at h
      split at h
      · unfold pathC at h
        split at h
        · cases h
        · split at h
          · cases h
          · split at h
            · rename_i hn
              injection h with _ h2
              exact absurd h2 hn
            · injection h with h1 _
              subst h1
              exact paramsL_num _ _
      · split at h
        · injection h with h1 _
          subst h1
          exact h0
        · cases h

theorem readL_blank {t : List Int} (null : Bool) (h : t = [] ∨ t.getD 0 0 = 32) : (readL t null).2.2.2 ≠ 0 := by
  have h60 : t[0]? ≠ some 60 := by
    intro h1
    rcases h with rfl | h
    · simp at h1
    · rw [List.getD, h1] at h; simp at h
  have h2 : ¬ (null = true ∧ t.take 2 = [60, 62]) := by
    rintro ⟨_, h3⟩
    apply h60
    cases t with
    | nil => simp at h3
    | cons x t => simp at h3; simp [h3.1]
  rw [read_noB h2 (ptL_no (by simpa using h60))]
  decide
/-- MAIL or RCPT with no path -/
theorem parse_nopath {v : Nat} {tail : List Int} (hv : v = 4 ∨ v = 5) (h : tail = [] ∨ tail.getD 0 0 = 32) : (parseC (verbsL.getD v [] ++ 32 :: (markL v ++ tail))).2 ≠ 0 := by
  have key : ∀ (W : List Int), 32 ∉ W → verbN W = v → (parseC (W ++ 32 :: (markL v ++ tail))).2 ≠ 0 := by
    intro W hW hN
    have hsp : spn (fun x => x != 32) (W ++ 32 :: (markL v ++ tail)) = W.length := by
      refine spn_stop_at (fun q hq => ?_) (by simp) (by simp [List.getD])
      rw [bne_iff_ne]
      intro he
      apply hW
      have : (W ++ 32 :: (markL v ++ tail)).getD q 0 = W[q] := by simp [List.getD, List.getElem?_append_left hq, hq]
      rw [this] at he
      rw [← he]; exact List.getElem_mem hq
    have e1 : cutW 32 (W ++ 32 :: (markL v ++ tail)) = W := by unfold cutW; rw [hsp]; simp
    have e2 : cutR 32 (W ++ 32 :: (markL v ++ tail)) = markL v ++ tail := by
      unfold cutR; rw [hsp, show W ++ 32 :: (markL v ++ tail) = (W ++ [32]) ++ (markL v ++ tail) by simp, List.drop_left' (by simp)]
    unfold parseC
    split
    · decide
    · rw [e1, e2, hN]
      rw [if_neg (by omega)]
      unfold restC
      rw [if_pos hv]
      unfold pathC
      split
      · decide
      · have e3 : (markL v ++ tail).drop (markL v).length = tail := by simp
        rw [e3, if_pos (readL_blank _ h)]
        decide
  rcases hv with rfl | rfl
  · exact key [77, 65, 73, 76] (by decide) (by decide +kernel)
  · exact key [82, 67, 80, 84] (by decide) (by decide +kernel)
/-- the digits in the library's words -/
theorem digL_dec (n : Nat) : ints (Lib.decDigits n) = digL n := by
  induction n using Nat.strongRecOn with
  | _ n ih =>
    rw [digL, Lib.decDigits]
    by_cases h : n < 10
    · rw [dif_pos h, dif_pos h]
      unfold ints
      simp
      omega
    · rw [dif_neg h, dif_neg h]
      have e : ints (Lib.decDigits (n / 10) ++ [UInt8.ofNat (48 + n % 10)]) = ints (Lib.decDigits (n / 10)) ++ ints [UInt8.ofNat (48 + n % 10)] := by unfold ints; simp
      rw [e, ih (n / 10) (by omega)]
      congr 1
      unfold ints
      simp
      omega
end Go.Proofs.YthcgnnhfkejglaaGreatDoor

/- CmdTexts: the code's sizeText, bodyText. -/
namespace Go.Proofs.YthcgnnhfkejglaaGreatDoor
open Go.Maps Go.Shelf Go.ChangeShapes Go.WideShapes Go.ChangeAt Go.RowKit
set_option linter.unusedVariables false
set_option linter.unusedSimpArgs false

/-- the table of powers stands -/
abbrev Pow10 (w : World) : Prop := Lib.TabIs Tryz.prog w "internal/strconv.uint64pow10" .u64 Lib.pow10Tab
theorem tab_mod {F : List Nat} {n : String} {g : Nat} {k : IntKind} {zs : List Int} {w w' : World} (hg : Tryz.prog.globalNamed n = some g) (h : Lib.TabIs Tryz.prog w n k zs) (hm : Mod F w w') (hF : g ∉ F) : Lib.TabIs Tryz.prog w' n k zs := by
  unfold Lib.TabIs World.var? at h ⊢
  rw [hg] at h ⊢
  simp only [Option.bind_some] at h ⊢
  cases hh : w.heap[g]? with
  | none => rw [hh] at h; cases h
  | some o => rw [hm.row hh hF]; rw [hh] at h; exact h
theorem gP10 : Tryz.prog.globalNamed "internal/strconv.uint64pow10" = some 2 := by kernel_rfl
theorem Pow10.quiet {w w' : World} (h : Pow10 w) (hm : Mod [] w w') : Pow10 w' := tab_mod gP10 h hm (by simp)

/-- a size's part of a line -/
def itoaL (n : Int) : List Int := ints (Lib.itoa n)
def sizeT (n : Int) : List Int := if n = -1 then [] else [32, 83, 73, 90, 69, 61] ++ itoaL n
def bodyT (n : Int) : List Int := if n = 7 then [32, 66, 79, 68, 89, 61, 55, 66, 73, 84] else if n = 8 then [32, 66, 79, 68, 89, 61, 56, 66, 73, 84, 77, 73, 77, 69] else []

set_option maxHeartbeats 1000000 in
theorem bodyText_any (n : Int) (w : World) : Calls Tryz.prog 22 #[.int .i64 n] w fun e w' => e = .returned (.string (strOfNums (bodyT n))) ∧ w = w' := by
  by_cases h7 : n = 7
  · subst h7
    go_enter Tryz.func22, Tryz.ntmps22
    go_wp2_with fail
    go_ret
    exact ⟨rfl, rfl⟩
  · by_cases h8 : n = 8
    · subst h8
      go_enter Tryz.func22, Tryz.ntmps22
      go_wp2_with fail
      go_ret
      exact ⟨rfl, rfl⟩
    · have e7 : (n == 7) = false := by simp [h7]
      have e8 : (n == 8) = false := by simp [h8]
      have HR := Lib.hid (show bodyT n = [] by unfold bodyT; rw [if_neg h7, if_neg h8])
      clear h7 h8
      go_enter Tryz.func22, Tryz.ntmps22
      go_wp2_with fail
      go_ret
      rw [HR.out]
      exact ⟨rfl, rfl⟩
theorem mod_grow {w : World} (k : Nat) (os : Array Obj) : Mod [] w (Go.Sort.grow (w.drewN k) os) := by
  have h1 := mod_drewN w k
  refine h1.trans ⟨rfl, rfl, rfl, by simp [Go.Sort.grow], fun i hi _ => ?_⟩
  show ((w.drewN k).heap ++ os)[i]? = _
  rw [Array.getElem?_append_left hi]
theorem itoa_str (n : Int) : (⟨(Lib.itoa n).toArray⟩ : ByteArray) = strOfNums (itoaL n) := by
  have h : nums (⟨(Lib.itoa n).toArray⟩ : ByteArray) = itoaL n := by rw [nums_ints]; rfl
  rw [← h, strOfNums_nums]
theorem itoaL_bytes (n : Int) : Bytes (itoaL n) := by
  have h : nums (⟨(Lib.itoa n).toArray⟩ : ByteArray) = itoaL n := by rw [nums_ints]; rfl
  rw [← h]; exact nums_bytes _
theorem itoaL_len (n : Int) (h0 : -9223372036854775808 ≤ n) (h1 : n ≤ 9223372036854775807) : (itoaL n).length ≤ 21 := by
  have := Lib.itoa_length_le n h0 h1
  unfold itoaL ints; simpa using this
theorem itoaL_nat (n : Nat) : itoaL n = digL n := by
  unfold itoaL
  rw [← digL_dec]
  unfold Lib.itoa
  rw [if_neg (by omega)]; simp
theorem size_eq_str : ({ data := #[32, 83, 73, 90, 69, 61] } : ByteArray) = strOfNums [32, 83, 73, 90, 69, 61] := by decide +kernel

set_option maxHeartbeats 1000000 in
theorem sizeText_any (n : Int) (w : World) (hP : Pow10 w) (h0 : -9223372036854775808 ≤ n) (h1 : n ≤ 9223372036854775807) :
    Calls Tryz.prog 21 #[.int .i64 n] w (StrP (sizeT n) w) := by
  by_cases hn : n = -1
  · subst hn
    go_enter Tryz.func21, Tryz.ntmps21
    go_wp2_with fail
    go_ret
    exact ⟨rfl, (Mod.refl [] _).toBelow (Nat.le_refl _) (by simp)⟩
  · have hb : (n == -1) = false := by simp [hn]
    have HR := Lib.hid (show sizeT n = [32, 83, 73, 90, 69, 61] ++ itoaL n by unfold sizeT; rw [if_neg hn])
    have hI := Tryz.strconv_Itoa n h0 h1 w hP
    rw [itoa_str] at hI
    have hadd := add_str2 { data := #[32, 83, 73, 90, 69, 61] } (strOfNums (itoaL n)) (by decide) (by rw [strOfNums_size]; have := itoaL_len n h0 h1; omega)
    rw [show ({ data := #[32, 83, 73, 90, 69, 61] } : ByteArray) ++ strOfNums (itoaL n) = strOfNums ([32, 83, 73, 90, 69, 61] ++ itoaL n) by rw [size_eq_str, strOfNums_append]] at hadd
    have HI := Lib.hid hI
    rw [HR.out]
    clear hI hn
    go_enter Tryz.func21, Tryz.ntmps21
    go_wp2_with fail
    refine HI.out.mono ?_
    rintro e w1 ⟨rfl, k, os, rfl⟩
    have HM := Lib.hid (mod_grow (w := w) k os)
    go_wp2_with fail
    go_ret
    exact ⟨rfl, HM.out.toBelow (Nat.le_refl _) (by simp)⟩
end Go.Proofs.YthcgnnhfkejglaaGreatDoor

/- CmdTexts: the code's restOf. -/
namespace Go.Proofs.YthcgnnhfkejglaaGreatDoor
open Go.Maps Go.Shelf Go.ChangeShapes Go.WideShapes Go.ChangeAt Go.RowKit
set_option linter.unusedVariables false
set_option linter.unusedSimpArgs false

/-- what the code writes behind a verb -/
def restT (v : Nat) (arg l d : List Int) (sz bd : Int) : List Int := if v = 4 ∨ v = 5 then markL v ++ (pathL l d).1 ++ sizeT sz ++ bodyT bd else arg
theorem bodyT_len (n : Int) : (bodyT n).length ≤ 14 := by unfold bodyT; split; decide; split <;> decide
theorem sizeT_len (n : Int) (h0 : -9223372036854775808 ≤ n) (h1 : n ≤ 9223372036854775807) : (sizeT n).length ≤ 27 := by
  have := itoaL_len n h0 h1
  unfold sizeT; split
  · simp
  · simp; omega

set_option maxRecDepth 100000 in
set_option maxHeartbeats 4000000 in
theorem restOf_any (v : Nat) (hv : v ≤ 11) (a lo dm : ByteArray) (n : Bool) (sz bd : Int) (w : World) (hP : Pow10 w) (h0 : -9223372036854775808 ≤ sz) (h1 : sz ≤ 9223372036854775807) (hl : lo.size ≤ 100000) (hd : dm.size ≤ 100000) (hpl : (pathL (nums lo) (nums dm)).1.length ≤ 500000) :
    Calls Tryz.prog 8 #[.agg (cmC v a lo dm n sz bd)] w (StrP (restT v (nums a) (nums lo) (nums dm) sz bd) w) := by
  have HN := Lib.hid (heap_alloc_new w (.cells (cmC v a lo dm n sz bd) 25))
  have HM := Lib.hid (show Mod [] w (w.alloc (.cells (cmC v a lo dm n sz bd) 25)) from (Mod.refl [] w).alloc _)
  have HP := Lib.hid hP
  have HV := Lib.hid (fun W => pathed_any v W hv)
  have HMk := Lib.hid (fun W => mark_any v W)
  have HPt := Lib.hid (fun W => pathw_any lo dm W hl hd)
  have HSz := Lib.hid (fun W h => sizeText_any sz W h h0 h1)
  have HBd := Lib.hid (fun W => bodyText_any bd W)
  unfold PathWP at HPt
  unfold StrP at HSz
  have hsl := sizeT_len sz h0 h1
  have hbl := bodyT_len bd
  have HR := Lib.hid (show restT v (nums a) (nums lo) (nums dm) sz bd = if v = 4 ∨ v = 5 then markL v ++ (pathL (nums lo) (nums dm)).1 ++ sizeT sz ++ bodyT bd else nums a from rfl)
  have hml := (markL_len v).2
  generalize restT v (nums a) (nums lo) (nums dm) sz bd = R at *
  generalize (pathL (nums lo) (nums dm)).1 = p at *
  generalize (pathL (nums lo) (nums dm)).2 = pe at *
  generalize sizeT sz = zt at *
  generalize bodyT bd = bt at *
  generalize markL v = mk at *
  have a1 := add_str2 (strOfNums mk) (strOfNums p) (by rw [strOfNums_size]; omega) (by rw [strOfNums_size]; omega)
  have a2 := add_str2 (strOfNums (mk ++ p)) (strOfNums zt) (by rw [strOfNums_size, List.length_append]; omega) (by rw [strOfNums_size]; omega)
  have a3 := add_str2 (strOfNums (mk ++ p ++ zt)) (strOfNums bt) (by rw [strOfNums_size, List.length_append, List.length_append]; omega) (by rw [strOfNums_size]; omega)
  rw [strOfNums_append] at a1 a2 a3
  obtain ⟨x1, hx1⟩ : ∃ x, strOfNums (mk ++ p) = x := ⟨_, rfl⟩
  obtain ⟨x2, hx2⟩ : ∃ x, strOfNums (mk ++ p ++ zt) = x := ⟨_, rfl⟩
  obtain ⟨x3, hx3⟩ : ∃ x, strOfNums (mk ++ p ++ zt ++ bt) = x := ⟨_, rfl⟩
  rw [hx1] at a1 a2
  rw [hx2] at a2 a3
  rw [hx3] at a3
  have HX3 := Lib.hid hx3
  clear hx1 hx2 hx3 hsl hbl hml hpl hP h0 h1 hl hd
  go_enter Tryz.func8, Tryz.ntmps8
  go_upto_region 1 with (fail)
  generalize w.alloc (.cells (cmC v a lo dm n sz bd) 25) = w0 at *
  generalize hcb : w.heap.size = cb at *
  have HCb := Lib.hid hcb
  clear hcb
  have k0 := blk_cell HN.out 0
  by_cases h45 : v = 4 ∨ v = 5
  case neg =>
    have e : (v == 4 || v == 5) = false := by
      rw [Bool.or_eq_false_iff, beq_eq_false_iff_ne, beq_eq_false_iff_ne]
      exact ⟨fun h => h45 (Or.inl h), fun h => h45 (Or.inr h)⟩
    rw [e] at HV
    have HR2 := Lib.hid (HR.out.trans (if_neg h45))
    clear e h45 a1 a2 a3
    go_wp2_with fail
    refine (HV.out _).mono ?_
    rintro e w' ⟨rfl, rfl⟩
    have k1 := blk_cell HN.out 1
    go_wp2_with fail
    go_ret
    rw [HR2.out]
    exact ⟨by rw [strOfNums_nums]; rfl, HM.out.toBelow (Nat.le_refl _) (by simp)⟩
  have e : (v == 4 || v == 5) = true := by simp [h45]
  rw [e] at HV
  have HR2 := Lib.hid (HR.out.trans (if_pos h45))
  clear e h45
  go_wp2_with fail
  refine (HV.out _).mono ?_
  rintro e w' ⟨rfl, rfl⟩
  have k2 := blk_cell HN.out 2
  have k3 := blk_cell HN.out 3
  go_wp2_with fail
  refine (HPt.out _).mono ?_
  rintro e w1 ⟨rfl, hb1⟩
  have HM1 := Lib.hid (HM.out.trans (Mod.ofBelow hb1))
  have HN1 := Lib.hid (below_blk hb1 HN.out)
  have HP1 := Lib.hid (HP.out.quiet HM1.out)
  clear hb1 k0 k2 k3
  have k0 := blk_cell HN1.out 0
  have k5 := blk_cell HN1.out 5
  have k6 := blk_cell HN1.out 6
  go_wp2_with fail
  go_region_held3 (fun W => W.cell? ⟨cb, 0, none⟩ = some (.int .i64 v) ∧ W.cell? ⟨cb, 5, none⟩ = some (.int .i64 sz) ∧ W.cell? ⟨cb, 6, none⟩ = some (.int .i64 bd)) ((go_keep)) (first
    | (go_at_call 20; refine (HMk.out _).mono ?_; rintro e wn ⟨rfl, rfl⟩)
    | (go_at_call 22; refine (HBd.out _).mono ?_; rintro e wn ⟨rfl, rfl⟩)
    | (go_at_call 21; refine (HSz.out _ (HP1.out.quiet ((Mod.refl [] w1).drew))).mono ?_; rintro e wn ⟨rfl, hb⟩; have HM2 := Lib.hid (HM1.out.drew.trans (Mod.ofBelow hb)); have HN2 := Lib.hid (below_blk hb (blk_drew HN1.out)); clear hb k0 k5 k6; have k0 := blk_cell HN2.out 0; have k5 := blk_cell HN2.out 5; have k6 := blk_cell HN2.out 6))
  go_wp2_with fail
  go_ret
  rw [HR2.out]
  unfold StrP
  rw [HX3.out]
  exact ⟨rfl, HM2.out.toBelow (Nat.le_refl _) (by simp)⟩
end Go.Proofs.YthcgnnhfkejglaaGreatDoor

/- CmdTexts: the code's Text. -/
namespace Go.Proofs.YthcgnnhfkejglaaGreatDoor
open Go.Maps Go.Shelf Go.ChangeShapes Go.WideShapes Go.ChangeAt Go.RowKit
set_option linter.unusedVariables false
set_option linter.unusedSimpArgs false

theorem Env.verb {w : World} (h : Env w) (v : Nat) (hv : v < 12) : w.cell? ⟨0, v, none⟩ = some (.string (strOfNums (verbsL.getD v []))) := by
  obtain ⟨t, fr, hh⟩ := h.vb
  rw [← verbsC_at v hv]
  simp [World.cell?, hh]
/-- the command is the one that was read -/
def same7 (v' : Nat) (a' l' d' : ByteArray) (n' : Bool) (sz' bd' : Int) (v : Nat) (a lo dm : ByteArray) (n : Bool) (sz bd : Int) : Bool := decide (v' = v ∧ a' = a ∧ l' = lo ∧ d' = dm ∧ n' = n ∧ sz' = sz ∧ bd' = bd)
theorem same7_iff {v' : Nat} {a' l' d' : ByteArray} {n' : Bool} {sz' bd' : Int} {v : Nat} {a lo dm : ByteArray} {n : Bool} {sz bd : Int} : same7 v' a' l' d' n' sz' bd' v a lo dm n sz bd = true ↔ v' = v ∧ a' = a ∧ l' = lo ∧ d' = dm ∧ n' = n ∧ sz' = sz ∧ bd' = bd := by unfold same7; exact decide_eq_true_iff
def sameC (x : CmdD) (v : Nat) (a lo dm : ByteArray) (n : Bool) (sz bd : Int) : Bool := same7 x.verb (strOfNums x.arg) (strOfNums x.lo) (strOfNums x.dm) x.null x.size x.body v a lo dm n sz bd
/-- the answer of a text that was made -/
def textA (L : List Int) (v : Nat) (a lo dm : ByteArray) (n : Bool) (sz bd : Int) : ByteArray × Int := if (parseC L).2 = 0 ∧ sameC (parseC L).1 v a lo dm n sz bd = true then (strOfNums L, 0) else (⟨#[]⟩, 3)
def lineC (v : Nat) (R : List Int) : List Int := if R = [] then verbsL.getD v [] else verbsL.getD v [] ++ 32 :: R
def AnsP (x : ByteArray × Int) (w : World) (e : Ending) (w' : World) : Prop := e = .returned (.tuple #[.string x.1, .int .i64 x.2]) ∧ Below w.heap.size w w'
theorem AnsP.no {x : ByteArray × Int} {w w' : World} {k : Int} (h : x = (⟨#[]⟩, k)) (hb : Below w.heap.size w w') : AnsP x w (.returned (.tuple #[.string ⟨#[]⟩, .int .i64 k])) w' := by subst h; exact ⟨rfl, hb⟩
theorem AnsP.ok {x : ByteArray × Int} {w w' : World} {s : ByteArray} (h : x = (s, 0)) (hb : Below w.heap.size w w') : AnsP x w (.returned (.tuple #[.string s, .int .i64 0])) w' := by subst h; exact ⟨rfl, hb⟩
theorem sp_str : ({ data := #[32] } : ByteArray) = strOfNums [32] := by decide +kernel
theorem ne_str {x y : ByteArray} (h : x ≠ y) : (x.toList == y.toList) = false := by
  rw [beq_eq_false_iff_ne]
  intro h2
  exact h (str_toList_inj h2)
theorem eq_str (x : ByteArray) : (x.toList == x.toList) = true := by simp

set_option maxRecDepth 100000 in
set_option maxHeartbeats 16000000 in
theorem textc_any (v : Nat) (hv1 : 1 ≤ v) (hv : v ≤ 11) (a lo dm : ByteArray) (n : Bool) (sz bd : Int) (w : World) (hE : Env w) (hP : Pow10 w) (h0 : -9223372036854775808 ≤ sz) (h1 : sz ≤ 9223372036854775807) (hl : lo.size ≤ 100000) (hd : dm.size ≤ 100000) (hpl : (pathL (nums lo) (nums dm)).1.length ≤ 10000)
    (hrl : (restT v (nums a) (nums lo) (nums dm) sz bd).length ≤ 50000) (hrb : Bytes (restT v (nums a) (nums lo) (nums dm) sz bd)) :
    Calls Tryz.prog 5 #[.agg (cmC v a lo dm n sz bd)] w (AnsP (textA (lineC v (restT v (nums a) (nums lo) (nums dm) sz bd)) v a lo dm n sz bd) w) := by
  have HN := Lib.hid (heap_alloc_new w (.cells (cmC v a lo dm n sz bd) 25))
  have HM := Lib.hid (show Mod [] w (w.alloc (.cells (cmC v a lo dm n sz bd) 25)) from (Mod.refl [] w).alloc _)
  have HE := Lib.hid hE
  have HRo := Lib.hid (fun W h => restOf_any v hv a lo dm n sz bd W h h0 h1 hl hd (by omega))
  unfold StrP at HRo
  have HP := Lib.hid hP
  generalize restT v (nums a) (nums lo) (nums dm) sz bd = Rl at *
  have hvl : (verbsL.getD v []).length ≤ 4 := by
    rcases (by omega : v = 1 ∨ v = 2 ∨ v = 3 ∨ v = 4 ∨ v = 5 ∨ v = 6 ∨ v = 7 ∨ v = 8 ∨ v = 9 ∨ v = 10 ∨ v = 11) with rfl | rfl | rfl | rfl | rfl | rfl | rfl | rfl | rfl | rfl | rfl
    all_goals decide
  have hvb := verbsL_bytes v
  have HPa := Lib.hid (fun x W (h : Env W) hx => parsec_any x W h hx)
  have HLn := Lib.hid (show lineC v Rl = if Rl = [] then verbsL.getD v [] else verbsL.getD v [] ++ 32 :: Rl from rfl)
  have hye := str_none Rl
  obtain ⟨y, hy⟩ : ∃ y, strOfNums Rl = y := ⟨_, rfl⟩
  have hvI1 : (1 : Int) ≤ (v : Int) := by omega
  have hvI2 : (v : Int) ≤ 11 := by omega
  have hcell := hE.verb v (by omega)
  have HVc := Lib.hid hcell
  have s1 := add_str2 { data := #[32] } y (by decide) (by rw [← hy, strOfNums_size]; omega)
  rw [← hy, show ({ data := #[32] } : ByteArray) ++ strOfNums Rl = strOfNums (32 :: Rl) by rw [sp_str, strOfNums_append]; rfl] at s1
  have s2 := add_str2 (strOfNums (verbsL.getD v [])) (strOfNums (32 :: Rl)) (by rw [strOfNums_size]; omega) (by rw [strOfNums_size]; simp; omega)
  rw [strOfNums_append] at s2
  have hLb1 : Bytes (verbsL.getD v [] ++ 32 :: Rl) := hvb.append (fun x hx => by rcases List.mem_cons.1 hx with rfl | hx; decide; exact hrb x hx)
  obtain ⟨lv, hlv⟩ : ∃ x, strOfNums (verbsL.getD v []) = x := ⟨_, rfl⟩
  obtain ⟨x1, hx1⟩ : ∃ x, strOfNums (32 :: Rl) = x := ⟨_, rfl⟩
  obtain ⟨x2, hx2⟩ : ∃ x, strOfNums (verbsL.getD v [] ++ 32 :: Rl) = x := ⟨_, rfl⟩
  have hz2 : x2.size ≤ 100000 := by rw [← hx2, strOfNums_size, List.length_append, List.length_cons]; omega
  have hzv : lv.size ≤ 100000 := by rw [← hlv, strOfNums_size]; omega
  have hn2 : nums x2 = verbsL.getD v [] ++ 32 :: Rl := by rw [← hx2]; exact nums_strOfNums hLb1
  have hnv : nums lv = verbsL.getD v [] := by rw [← hlv]; exact nums_strOfNums hvb
  rw [hy] at hye s1 HRo
  rw [hlv, hx1, hx2] at s2
  rw [hx1] at s1
  rw [hlv] at HVc
  have HX2 := Lib.hid hx2
  have HLv := Lib.hid hlv
  have HN2 := Lib.hid hn2
  have HNv := Lib.hid hnv
  clear hlv hx1 hx2 hn2 hnv hLb1 hvb hvl hcell hy hrb hrl hpl h0 h1 hl hd hE hP
  generalize lineC v Rl = L at *
  go_enter Tryz.func5, Tryz.ntmps5
  go_upto_region 1 with (fail)
  have HE0 := Lib.hid (HE.out.quiet HM.out)
  have HP0 := Lib.hid (HP.out.quiet HM.out)
  have hvc := HM.out.cell HVc.out (by simp)
  generalize w.alloc (.cells (cmC v a lo dm n sz bd) 25) = w0 at *
  generalize hcb : w.heap.size = cb at *
  have HCb := Lib.hid hcb
  clear hcb
  have k0 := blk_cell HN.out 0
  go_upto_region 4 with (fail)
  clear hvc
  go_wp2_with (refine wpList_load_cmd (by rfl) _ (by rfl) cb (cmC v a lo dm n sz bd) rfl rfl HN.out ?_)
  refine (HRo.out _ HP0.out).mono ?_
  rintro e w1 ⟨rfl, hb1⟩
  have HM1 := Lib.hid (HM.out.trans (Mod.ofBelow hb1))
  have HN1 := Lib.hid (below_blk hb1 HN.out)
  have HE1 := Lib.hid (HE0.out.below hb1)
  clear hb1 k0
  by_cases hRl : Rl = []
  · rw [decide_eq_true hRl] at hye
    have HLL := Lib.hid (show nums lv = L by rw [HNv.out, HLn.out, if_pos hRl])
    have HLS := Lib.hid (show strOfNums L = lv by rw [← HLL.out, strOfNums_nums])
    clear hRl s1 s2
    have HPx := Lib.hid (fun W h => HPa.out lv W h hzv)
    unfold ParseC cmD at HPx
    have HA := Lib.hid (show textA L v a lo dm n sz bd = if (parseC L).2 = 0 ∧ sameC (parseC L).1 v a lo dm n sz bd = true then (strOfNums L, 0) else (⟨#[]⟩, 3) from rfl)
    rw [HLS.out] at HA
    rw [HLL.out] at HPx
    generalize textA L v a lo dm n sz bd = AA at *
    generalize parseC L = X at *
    obtain ⟨⟨v', arg', lo', dm', n', sz', bd'⟩, code⟩ := X
    simp only at HPx HA
    unfold sameC at HA
    simp only at HA
    generalize strOfNums arg' = a' at *
    generalize strOfNums lo' = l' at *
    generalize strOfNums dm' = d' at *
    go_wp2_with fail
    refine (HPx.out _ HE1.out).mono ?_
    rintro e w5 ⟨rfl, hb5⟩
    have hn5 := heap_alloc_new w5 (.cells (cmC v' a' l' d' n' sz' bd') 25)
    have hm5 : Mod [] w5 (w5.alloc (.cells (cmC v' a' l' d' n' sz' bd') 25)) := (Mod.refl [] w5).alloc _
    have HN5 := Lib.hid hn5
    have HN16 := Lib.hid (hm5.row (below_blk hb5 HN1.out) (by simp))
    have HM6 := Lib.hid ((HM1.out.trans (Mod.ofBelow hb5)).trans hm5)
    clear hn5 hm5 hb5 HPx
    go_upto_region 8 with (fail)
    generalize w5.alloc (.cells (cmC v' a' l' d' n' sz' bd') 25) = w6 at *
    generalize w5.heap.size = g6 at *
    by_cases hc : code = 0
    case neg =>
      have hc' : (code != 0) = true := by simp [hc]
      have HR := Lib.hid (HA.out.trans (if_neg (fun h => hc h.1)))
      clear hc
      go_wp2_with fail
      go_ret2
      exact AnsP.no HR.out (HM6.out.toBelow (Nat.le_refl _) (by simp))
    subst hc
    have k0 := blk_cell HN16.out 0
    have k1 := blk_cell HN16.out 1
    have k2 := blk_cell HN16.out 2
    have k3 := blk_cell HN16.out 3
    have k4 := blk_cell HN16.out 4
    have k5 := blk_cell HN16.out 5
    have k6 := blk_cell HN16.out 6
    have y0 := blk_cell HN5.out 0
    have y1 := blk_cell HN5.out 1
    have y2 := blk_cell HN5.out 2
    have y3 := blk_cell HN5.out 3
    have y4 := blk_cell HN5.out 4
    have y5 := blk_cell HN5.out 5
    have y6 := blk_cell HN5.out 6
    by_cases hq : v' = v
    case neg =>
      have hf := (by rw [beq_eq_false_iff_ne]; intro hh; exact hq (by omega) : ((v' : Int) == (v : Int)) = false)
      have HR := Lib.hid (HA.out.trans (if_neg (fun h => hq (same7_iff.1 h.2).1)))
      clear hq
      skip
      go_wp2_with fail
      go_ret2
      exact AnsP.no HR.out (HM6.out.toBelow (Nat.le_refl _) (by simp))
    subst hq
    by_cases hq : a' = a
    case neg =>
      have hf := ne_str hq
      have HR := Lib.hid (HA.out.trans (if_neg (fun h => hq (same7_iff.1 h.2).2.1)))
      clear hq
      skip
      go_wp2_with fail
      go_ret2
      exact AnsP.no HR.out (HM6.out.toBelow (Nat.le_refl _) (by simp))
    subst hq
    by_cases hq : l' = lo
    case neg =>
      have hf := ne_str hq
      have HR := Lib.hid (HA.out.trans (if_neg (fun h => hq (same7_iff.1 h.2).2.2.1)))
      clear hq
      have q1 := eq_str a'
      go_wp2_with fail
      go_ret2
      exact AnsP.no HR.out (HM6.out.toBelow (Nat.le_refl _) (by simp))
    subst hq
    by_cases hq : d' = dm
    case neg =>
      have hf := ne_str hq
      have HR := Lib.hid (HA.out.trans (if_neg (fun h => hq (same7_iff.1 h.2).2.2.2.1)))
      clear hq
      have q1 := eq_str a'
      have q2 := eq_str l'
      go_wp2_with fail
      go_ret2
      exact AnsP.no HR.out (HM6.out.toBelow (Nat.le_refl _) (by simp))
    subst hq
    by_cases hq : n' = n
    case neg =>
      have hf := (by simp [hq] : (n' == n) = false)
      have HR := Lib.hid (HA.out.trans (if_neg (fun h => hq (same7_iff.1 h.2).2.2.2.2.1)))
      clear hq
      have q1 := eq_str a'
      have q2 := eq_str l'
      have q3 := eq_str d'
      go_wp2_with fail
      go_ret2
      exact AnsP.no HR.out (HM6.out.toBelow (Nat.le_refl _) (by simp))
    subst hq
    by_cases hq : sz' = sz
    case neg =>
      have hf := (by simp [hq] : (sz' == sz) = false)
      have HR := Lib.hid (HA.out.trans (if_neg (fun h => hq (same7_iff.1 h.2).2.2.2.2.2.1)))
      clear hq
      have q1 := eq_str a'
      have q2 := eq_str l'
      have q3 := eq_str d'
      go_wp2_with fail
      go_ret2
      exact AnsP.no HR.out (HM6.out.toBelow (Nat.le_refl _) (by simp))
    subst hq
    by_cases hq : bd' = bd
    case neg =>
      have hf := (by simp [hq] : (bd' == bd) = false)
      have HR := Lib.hid (HA.out.trans (if_neg (fun h => hq (same7_iff.1 h.2).2.2.2.2.2.2)))
      clear hq
      have q1 := eq_str a'
      have q2 := eq_str l'
      have q3 := eq_str d'
      go_wp2_with fail
      go_ret2
      exact AnsP.no HR.out (HM6.out.toBelow (Nat.le_refl _) (by simp))
    subst hq
    have HR := Lib.hid (HA.out.trans (if_pos ⟨rfl, same7_iff.2 ⟨rfl, rfl, rfl, rfl, rfl, rfl, rfl⟩⟩))
    have q1 := eq_str a'
    have q2 := eq_str l'
    have q3 := eq_str d'
    go_wp2_with fail
    go_ret2
    exact AnsP.ok HR.out (HM6.out.toBelow (Nat.le_refl _) (by simp))
  · rw [decide_eq_false hRl] at hye
    have HLL := Lib.hid (show nums x2 = L by rw [HN2.out, HLn.out, if_neg hRl])
    have HLS := Lib.hid (show strOfNums L = x2 by rw [← HLL.out, strOfNums_nums])
    clear hRl
    have HPx := Lib.hid (fun W h => HPa.out x2 W h hz2)
    unfold ParseC cmD at HPx
    have HA := Lib.hid (show textA L v a lo dm n sz bd = if (parseC L).2 = 0 ∧ sameC (parseC L).1 v a lo dm n sz bd = true then (strOfNums L, 0) else (⟨#[]⟩, 3) from rfl)
    rw [HLS.out] at HA
    rw [HLL.out] at HPx
    generalize textA L v a lo dm n sz bd = AA at *
    generalize parseC L = X at *
    obtain ⟨⟨v', arg', lo', dm', n', sz', bd'⟩, code⟩ := X
    simp only at HPx HA
    unfold sameC at HA
    simp only at HA
    generalize strOfNums arg' = a' at *
    generalize strOfNums lo' = l' at *
    generalize strOfNums dm' = d' at *
    go_wp2_with fail
    refine (HPx.out _ HE1.out).mono ?_
    rintro e w5 ⟨rfl, hb5⟩
    have hn5 := heap_alloc_new w5 (.cells (cmC v' a' l' d' n' sz' bd') 25)
    have hm5 : Mod [] w5 (w5.alloc (.cells (cmC v' a' l' d' n' sz' bd') 25)) := (Mod.refl [] w5).alloc _
    have HN5 := Lib.hid hn5
    have HN16 := Lib.hid (hm5.row (below_blk hb5 HN1.out) (by simp))
    have HM6 := Lib.hid ((HM1.out.trans (Mod.ofBelow hb5)).trans hm5)
    clear hn5 hm5 hb5 HPx
    go_upto_region 8 with (fail)
    generalize w5.alloc (.cells (cmC v' a' l' d' n' sz' bd') 25) = w6 at *
    generalize w5.heap.size = g6 at *
    by_cases hc : code = 0
    case neg =>
      have hc' : (code != 0) = true := by simp [hc]
      have HR := Lib.hid (HA.out.trans (if_neg (fun h => hc h.1)))
      clear hc
      go_wp2_with fail
      go_ret2
      exact AnsP.no HR.out (HM6.out.toBelow (Nat.le_refl _) (by simp))
    subst hc
    have k0 := blk_cell HN16.out 0
    have k1 := blk_cell HN16.out 1
    have k2 := blk_cell HN16.out 2
    have k3 := blk_cell HN16.out 3
    have k4 := blk_cell HN16.out 4
    have k5 := blk_cell HN16.out 5
    have k6 := blk_cell HN16.out 6
    have y0 := blk_cell HN5.out 0
    have y1 := blk_cell HN5.out 1
    have y2 := blk_cell HN5.out 2
    have y3 := blk_cell HN5.out 3
    have y4 := blk_cell HN5.out 4
    have y5 := blk_cell HN5.out 5
    have y6 := blk_cell HN5.out 6
    by_cases hq : v' = v
    case neg =>
      have hf := (by rw [beq_eq_false_iff_ne]; intro hh; exact hq (by omega) : ((v' : Int) == (v : Int)) = false)
      have HR := Lib.hid (HA.out.trans (if_neg (fun h => hq (same7_iff.1 h.2).1)))
      clear hq
      skip
      go_wp2_with fail
      go_ret2
      exact AnsP.no HR.out (HM6.out.toBelow (Nat.le_refl _) (by simp))
    subst hq
    by_cases hq : a' = a
    case neg =>
      have hf := ne_str hq
      have HR := Lib.hid (HA.out.trans (if_neg (fun h => hq (same7_iff.1 h.2).2.1)))
      clear hq
      skip
      go_wp2_with fail
      go_ret2
      exact AnsP.no HR.out (HM6.out.toBelow (Nat.le_refl _) (by simp))
    subst hq
    by_cases hq : l' = lo
    case neg =>
      have hf := ne_str hq
      have HR := Lib.hid (HA.out.trans (if_neg (fun h => hq (same7_iff.1 h.2).2.2.1)))
      clear hq
      have q1 := eq_str a'
      go_wp2_with fail
      go_ret2
      exact AnsP.no HR.out (HM6.out.toBelow (Nat.le_refl _) (by simp))
    subst hq
    by_cases hq : d' = dm
    case neg =>
      have hf := ne_str hq
      have HR := Lib.hid (HA.out.trans (if_neg (fun h => hq (same7_iff.1 h.2).2.2.2.1)))
      clear hq
      have q1 := eq_str a'
      have q2 := eq_str l'
      go_wp2_with fail
      go_ret2
      exact AnsP.no HR.out (HM6.out.toBelow (Nat.le_refl _) (by simp))
    subst hq
    by_cases hq : n' = n
    case neg =>
      have hf := (by simp [hq] : (n' == n) = false)
      have HR := Lib.hid (HA.out.trans (if_neg (fun h => hq (same7_iff.1 h.2).2.2.2.2.1)))
      clear hq
      have q1 := eq_str a'
      have q2 := eq_str l'
      have q3 := eq_str d'
      go_wp2_with fail
      go_ret2
      exact AnsP.no HR.out (HM6.out.toBelow (Nat.le_refl _) (by simp))
    subst hq
    by_cases hq : sz' = sz
    case neg =>
      have hf := (by simp [hq] : (sz' == sz) = false)
      have HR := Lib.hid (HA.out.trans (if_neg (fun h => hq (same7_iff.1 h.2).2.2.2.2.2.1)))
      clear hq
      have q1 := eq_str a'
      have q2 := eq_str l'
      have q3 := eq_str d'
      go_wp2_with fail
      go_ret2
      exact AnsP.no HR.out (HM6.out.toBelow (Nat.le_refl _) (by simp))
    subst hq
    by_cases hq : bd' = bd
    case neg =>
      have hf := (by simp [hq] : (bd' == bd) = false)
      have HR := Lib.hid (HA.out.trans (if_neg (fun h => hq (same7_iff.1 h.2).2.2.2.2.2.2)))
      clear hq
      have q1 := eq_str a'
      have q2 := eq_str l'
      have q3 := eq_str d'
      go_wp2_with fail
      go_ret2
      exact AnsP.no HR.out (HM6.out.toBelow (Nat.le_refl _) (by simp))
    subst hq
    have HR := Lib.hid (HA.out.trans (if_pos ⟨rfl, same7_iff.2 ⟨rfl, rfl, rfl, rfl, rfl, rfl, rfl⟩⟩))
    have q1 := eq_str a'
    have q2 := eq_str l'
    have q3 := eq_str d'
    go_wp2_with fail
    go_ret2
    exact AnsP.ok HR.out (HM6.out.toBelow (Nat.le_refl _) (by simp))
end Go.Proofs.YthcgnnhfkejglaaGreatDoor

