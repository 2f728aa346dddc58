import Derived.Test.YthcgnnhfkejglaaGreatDoorCmC
/- Commands: the library's Cut, Split, CutPrefix, CutSuffix, ParseUint, Clone in the words of CmP. -/
namespace Go.Proofs.YthcgnnhfkejglaaGreatDoor
open Go.Shelf Go.ChangeShapes Go.WideShapes Go.ChangeAt Go.RowKit
set_option linter.unusedVariables false
set_option linter.unusedSimpArgs false

theorem ccut_any (s sep : ByteArray) (c : UInt8) (hsep : sep.data.toList = [c]) (w : World) (hE : Env w) (hs : s.size ≤ 100000) :
    Calls Tryz.prog 15 #[.string s, .string sep] w fun e w' => e = .returned (.tuple #[.string (strOfNums (cutW c.toNat (nums s))), .string (strOfNums (cutR c.toNat (nums s))), .bool (cutB c.toNat (nums s))]) ∧ Mod [] w w' := by
  obtain ⟨m, hm⟩ := hE.ml
  refine (Tryz.strings_Cut s sep m w (by omega) hm).mono ?_
  rintro e w' ⟨rfl, hw⟩
  rw [hsep]
  obtain ⟨h1, h2, h3⟩ := cut_nums s c
  rw [h1, h2, h3]
  exact ⟨rfl, quiet_mod hw⟩
theorem csplit_any (s sep : ByteArray) (c : UInt8) (hsep : sep.data.toList = [c]) (w : World) (hE : Env w) (hs : s.size ≤ 100000) :
    Calls Tryz.prog 66 #[.string s, .string sep] w fun e w' => e = .returned (.slice (some ⟨w.heap.size, 0, none⟩) (splitL c.toNat (nums s)).length (splitL c.toNat (nums s)).length) ∧ w' = w.alloc (.cells ((splitL c.toNat (nums s)).map fun l => Value.string (strOfNums l)).toArray 9) := by
  obtain ⟨m, hm⟩ := hE.ml
  have h1 : 1 ≤ sep.size := by
    have : sep.data.toList.length = 1 := by rw [hsep]; rfl
    have h2 : sep.data.toList.length = sep.size := by simp
    omega
  refine (Tryz.strings_Split s sep m w (by omega) hm h1).mono ?_
  rintro e w' ⟨rfl, rfl⟩
  have e1 := split_nums c sep hsep s.size s (Nat.le_refl _)
  have e2 : (Lib.countB s sep + 1) = (splitL c.toNat (nums s)).length := by
    rw [← e1, List.length_map, Lib.splitB_all sep h1 0 _ s rfl]
  have e3 : (Lib.splitB sep 0 (Lib.countB s sep) s).map Value.string = (splitL c.toNat (nums s)).map fun l => Value.string (strOfNums l) := by
    rw [← e1, List.map_map]
    apply List.map_congr_left
    intro x _
    simp [strOfNums_nums]
  rw [e2, e3]
  exact ⟨rfl, rfl⟩
theorem ptail_size {s : ByteArray} : s.data.toList.length = s.size := by simp
theorem uint_any (s : ByteArray) (w : World) (hE : Env w) (hs : s.size ≤ 100000) :
    Calls Tryz.prog 115 #[.string s, .int .i64 10, .int .i64 64] w fun e w' => Below w.heap.size w w' ∧
      ((∃ u : Nat, e = .returned (.tuple #[.int .u64 u, .nilIface]) ∧ sizeL (nums s) = if u ≤ 9007199254740992 ∧ s.size ≤ 20 then some u else none) ∨ (∃ x t v, e = .returned (.tuple #[.int .u64 x, .iface t v]) ∧ sizeL (nums s) = none)) := by
  cases h : Lib.parseUintB 64 s.data.toList with
  | ok u =>
    refine (Tryz.strconv_ParseUint_10_at64_ok s (by omega) u h w).mono ?_
    rintro e w' ⟨rfl, hw⟩
    refine ⟨?_, Or.inl ⟨u, rfl, ?_⟩⟩
    · rcases hw with rfl | rfl
      · exact Below.refl _ _
      · exact Lib.bytesWorld_below _ _ _
    · rw [nums_ints, size_ok h, ptail_size]
  | «syntax» =>
    obtain ⟨ev, hv, hev⟩ := hE.es
    refine (Tryz.strconv_ParseUint_10_at64_syntax s (by omega) h ev w hv hev).mono ?_
    rintro e w' ⟨N, rfl, _, _, hb⟩
    exact ⟨hb, Or.inr ⟨_, _, _, rfl, by rw [nums_ints]; exact size_no (by rw [h]; intro u hu; cases hu)⟩⟩
  | range =>
    obtain ⟨ev, hv, hev⟩ := hE.er
    refine (Tryz.strconv_ParseUint_10_at64_range s (by omega) h ev w hv hev).mono ?_
    rintro e w' ⟨N, rfl, _, _, hb⟩
    exact ⟨hb, Or.inr ⟨_, _, _, rfl, by rw [nums_ints]; exact size_no (by rw [h]; intro u hu; cases hu)⟩⟩
theorem cclone_any (s : ByteArray) (w : World) (hs : s.size ≤ 100000) :
    Calls Tryz.prog 47 #[.string s] w fun e w' => e = .returned (.string s) ∧ Below w.heap.size w w' := by
  go_enter Tryz.func47, Tryz.ntmps47
  go_wp2_with (go_at_call 73; refine (Tryz.stringslite_Clone s w (by omega)).mono ?_; rintro e w' ⟨rfl, hb⟩)
  go_ret
  exact ⟨rfl, hb⟩

/-- a text is a written one just if its bytes are -/
theorem str_isB (x : ByteArray) (L : List UInt8) : (x.toList == L) = decide (nums x = ints L) := by
  rw [Lib.toList_data, nums_ints, Bool.eq_iff_iff, beq_iff_eq, decide_eq_true_iff]
  constructor
  · intro h; rw [h]
  · intro h
    have := congrArg strOfNums h
    rw [← str_ints, ← str_ints] at this
    have h2 := congrArg (fun b : ByteArray => b.data.toList) this
    simpa using h2
theorem pre_one (l : List UInt8) (c : UInt8) : Lib.hasPrefix l [c] = ((ints l).head? == some (c.toNat : Int)) ∧ ints (Lib.trimPrefix l [c]) = if ((ints l).head? == some (c.toNat : Int)) = true then (ints l).drop 1 else ints l := by
  unfold Lib.trimPrefix Lib.hasPrefix
  cases l with
  | nil => exact ⟨rfl, rfl⟩
  | cons b l =>
    have e : ints (b :: l) = (b.toNat : Int) :: ints l := rfl
    have h : ([c] : List UInt8).isPrefixOf (b :: l) = ((ints (b :: l)).head? == some (c.toNat : Int)) := by
      rw [e, Bool.eq_iff_iff]
      simp only [List.isPrefixOf, Bool.and_true, beq_iff_eq, List.head?_cons, Option.some.injEq]
      rw [byte_eq]
      exact ⟨fun h => h.symm, fun h => h.symm⟩
    refine ⟨h, ?_⟩
    rw [h]
    split
    · rfl
    · rfl
theorem suf_one (l : List UInt8) (c : UInt8) : Lib.hasSuffix l [c] = ((ints l).getLast? == some (c.toNat : Int)) ∧ ints (Lib.trimSuffix l [c]) = if ((ints l).getLast? == some (c.toNat : Int)) = true then (ints l).dropLast else ints l := by
  have h : Lib.hasSuffix l [c] = ((ints l).getLast? == some (c.toNat : Int)) := by
    unfold Lib.hasSuffix
    rw [Bool.eq_iff_iff, List.isSuffixOf_iff_suffix, beq_iff_eq]
    unfold ints
    rw [List.getLast?_map]
    constructor
    · rintro ⟨t, rfl⟩
      simp
    · intro h
      cases hl : l.getLast? with
      | none => rw [hl] at h; cases h
      | some x =>
        rw [hl] at h
        simp only [Option.map_some, Option.some.injEq] at h
        obtain rfl := byte_eq.1 h
        have hne : l ≠ [] := by rintro rfl; cases hl
        refine ⟨l.dropLast, ?_⟩
        have := List.dropLast_concat_getLast hne
        rw [List.getLast?_eq_some_getLast hne] at hl
        injection hl with hl
        rw [← hl]; exact this
  refine ⟨h, ?_⟩
  unfold Lib.trimSuffix
  rw [h]
  split
  · unfold ints
    rw [List.dropLast_eq_take, List.length_map, List.map_take]; rfl
  · rfl
end Go.Proofs.YthcgnnhfkejglaaGreatDoor

