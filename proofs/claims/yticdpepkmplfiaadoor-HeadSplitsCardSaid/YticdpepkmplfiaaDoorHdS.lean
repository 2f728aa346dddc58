/- Head: what the library answers, as lists of numbers: Cut, ReplaceAll, TrimLeft, TrimRight, Clone, HasPrefix, IndexByte, LastIndexByte. -/
import Derived.Test.YticdpepkmplfiaaDoorHdB
import Derived.Test.YticdpepkmplfiaaDoorCut
import Derived.Test.YticdpepkmplfiaaDoorShelf
import Derived.Shelf.Strings.SlTrimAscii
namespace Go.Proofs.YticdpepkmplfiaaDoor
open Go.Shelf Go.ChangeShapes Go.WideShapes Go.ChangeAt Go.RowKit
set_option linter.unusedVariables false
set_option linter.unusedSimpArgs false

theorem bytesOf_cons (x : Int) (l : List Int) : Lib.bytesOf (x :: l) = UInt8.ofNat x.toNat :: Lib.bytesOf l := rfl
theorem bytesOf_nums (s : ByteArray) : Lib.bytesOf (nums s) = s.data.toList := by
  unfold Lib.bytesOf nums
  rw [List.map_map]
  conv => rhs; rw [← List.map_id s.data.toList]
  apply List.map_congr_left
  intro b _
  simp
theorem bytesOf_append (a b : List Int) : Lib.bytesOf (a ++ b) = Lib.bytesOf a ++ Lib.bytesOf b := by simp [Lib.bytesOf]
theorem bytesOf_take (l : List Int) (k : Nat) : (Lib.bytesOf l).take k = Lib.bytesOf (l.take k) := by simp [Lib.bytesOf, List.map_take]
theorem bytesOf_drop (l : List Int) (k : Nat) : (Lib.bytesOf l).drop k = Lib.bytesOf (l.drop k) := by simp [Lib.bytesOf, List.map_drop]
theorem nums_bytesOf {l : List Int} (h : Bytes l) : nums ⟨(Lib.bytesOf l).toArray⟩ = l := by
  unfold nums Lib.bytesOf
  simp only [List.toList_toArray, List.map_map]
  conv => rhs; rw [← List.map_id l]
  apply List.map_congr_left
  intro x hx
  have := h x hx
  simp
  omega
theorem strip_bytes : ∀ {l : List Int}, Bytes l → Bytes (strip l)
  | [], _ => Bytes.nil
  | [x], h => h
  | x :: y :: l, h => by
    rw [strip]
    split
    · exact strip_bytes (fun z hz => h z (by simp [hz]))
    · intro z hz
      rcases List.mem_cons.1 hz with rfl | hz
      · exact h _ (by simp)
      · exact strip_bytes (l := y :: l) (fun u hu => h u (List.mem_cons_of_mem _ hu)) z hz
theorem replaceK_strip : ∀ (l : List Int), Bytes l → Lib.replaceK crlf8 [] (Lib.count (Lib.bytesOf l) crlf8) (Lib.bytesOf l) = Lib.bytesOf (strip l)
  | [], _ => rfl
  | [x], h => by
    have hp := pre_crlf h
    have hi : Lib.index (Lib.bytesOf [x]) crlf8 = -1 := by
      rw [bytesOf_cons] at hp ⊢
      rw [Lib.index, hp]
      simp [Lib.bytesOf, Lib.index]
    rw [Lib.count_miss hi]; rfl
  | x :: y :: l, h => by
    have hp := pre_crlf h
    rw [strip]
    by_cases hc : x = 13 ∧ y = 10
    · rw [if_pos hc]
      have hi : Lib.index (Lib.bytesOf (x :: y :: l)) crlf8 = ((0 : Nat) : Int) := by
        rw [bytesOf_cons] at hp ⊢
        rw [Lib.index, hp, if_pos (by simp [hc])]
        rfl
      rw [Lib.count_hit (by decide) hi, Nat.add_comm, Lib.replaceK_hit _ _ _ _ 0 hi]
      have : (Lib.bytesOf (x :: y :: l)).drop (0 + crlf8.length) = Lib.bytesOf l := rfl
      rw [this, replaceK_strip l (fun z hz => h z (by simp [hz]))]
      rfl
    · rw [if_neg hc]
      have ih := replaceK_strip (y :: l) (fun z hz => h z (List.mem_cons_of_mem _ hz))
      have hpf : crlf8.isPrefixOf (Lib.bytesOf (x :: y :: l)) = false := by
        rw [hp]; simpa using hc
      have hix : Lib.index (Lib.bytesOf (x :: y :: l)) crlf8 = if Lib.index (Lib.bytesOf (y :: l)) crlf8 == -1 then -1 else Lib.index (Lib.bytesOf (y :: l)) crlf8 + 1 := by
        rw [bytesOf_cons] at hpf ⊢
        rw [Lib.index, hpf]; rfl
      rcases Lib.index_spec (Lib.bytesOf (y :: l)) crlf8 with ⟨h1, _⟩ | ⟨i, h1, _⟩
      · rw [h1] at hix
        have hix' : Lib.index (Lib.bytesOf (x :: y :: l)) crlf8 = -1 := by rw [hix]; rfl
        rw [Lib.count_miss h1] at ih
        rw [Lib.count_miss hix', bytesOf_cons x (strip (y :: l)), ← ih]
        rfl
      · rw [h1] at hix
        have hix' : Lib.index (Lib.bytesOf (x :: y :: l)) crlf8 = ((i + 1 : Nat) : Int) := by
          rw [hix, if_neg (by simp)]; push_cast; rfl
        rw [Lib.count_hit (by decide) h1, Nat.add_comm, Lib.replaceK_hit _ _ _ _ i h1] at ih
        rw [Lib.count_hit (by decide) hix', Nat.add_comm, Lib.replaceK_hit _ _ _ _ (i + 1) hix', bytesOf_cons x (strip (y :: l)), ← ih]
        have : (Lib.bytesOf (x :: y :: l)).drop (i + 1 + crlf8.length) = (Lib.bytesOf (y :: l)).drop (i + crlf8.length) := by
          rw [bytesOf_cons x, show i + 1 + crlf8.length = (i + crlf8.length) + 1 by omega, List.drop_succ_cons]
        rw [this, bytesOf_cons x, List.take_succ_cons]
        rfl
theorem replaceAll_strip {l : List Int} (h : Bytes l) : Lib.replaceAll (Lib.bytesOf l) crlf8 [] = Lib.bytesOf (strip l) := by
  rw [← replaceK_strip l h]
  rfl
theorem blank8 {x : Int} (h : 0 ≤ x ∧ x < 256) : ([32, 9] : List UInt8).contains (UInt8.ofNat x.toNat) = blankB x := by
  have h1 := byte_eq8 h 32 (by decide)
  have h2 := byte_eq8 h 9 (by decide)
  rw [Bool.eq_iff_iff]
  simp only [List.contains_cons, List.contains_nil, Bool.or_false, Bool.or_eq_true, beq_iff_eq, blankB, decide_eq_true_eq]
  exact ⟨fun h => h.imp h1.1 h2.1, fun h => h.imp h1.2 h2.2⟩
theorem trimLeft_blank : ∀ {l : List Int}, Bytes l → Lib.trimLeftS (Lib.bytesOf l) [32, 9] = Lib.bytesOf (l.dropWhile blankB)
  | [], _ => rfl
  | x :: l, h => by
    have ih := trimLeft_blank (l := l) (fun y hy => h y (List.mem_cons_of_mem _ hy))
    unfold Lib.trimLeftS at *
    rw [bytesOf_cons, List.dropWhile_cons, List.dropWhile_cons, blank8 (h x (by simp)), ih]
    split
    · rfl
    · rfl
theorem dropWhile_len8 : ∀ {l : List Int}, Bytes l → ((Lib.bytesOf l).dropWhile (([32, 9] : List UInt8).contains ·)).length = l.length - runN blankB l
  | [], _ => rfl
  | x :: l, h => by
    have ih := dropWhile_len8 (l := l) (fun y hy => h y (List.mem_cons_of_mem _ hy))
    rw [bytesOf_cons, List.dropWhile_cons, blank8 (h x (by simp)), runN]
    split
    · rw [ih, List.length_cons]; omega
    · simp [Lib.bytesOf]
/-- how long a text is but for its last blanks -/
def trimN (l : List Int) : Nat := l.length - runN blankB l.reverse
theorem trimRight_len {l : List Int} (h : Bytes l) : (Lib.trimRightS (Lib.bytesOf l) [32, 9]).length = trimN l := by
  unfold Lib.trimRightS trimN
  have : (Lib.bytesOf l).reverse = Lib.bytesOf l.reverse := by simp [Lib.bytesOf]
  rw [List.length_reverse, this, dropWhile_len8 h.reverse, List.length_reverse]
theorem trimN_is (l : List Int) : trimN l ≤ l.length ∧ (∀ j, trimN l ≤ j → j < l.length → blankB (l.getD j 0) = true) ∧ (0 < trimN l → blankB (l.getD (trimN l - 1) 0) = false) := by
  unfold trimN
  have hle := runN_le blankB l.reverse
  rw [List.length_reverse] at hle
  have hg : ∀ k, k < l.length → l.reverse.getD k 0 = l.getD (l.length - 1 - k) 0 := by
    intro k hk
    simp [List.getD, List.getElem?_reverse hk]
  refine ⟨by omega, fun j h1 h2 => ?_, fun h1 => ?_⟩
  · have := runN_is blankB l.reverse (l.length - 1 - j) (by omega)
    rw [hg _ (by omega)] at this
    rwa [show l.length - 1 - (l.length - 1 - j) = j by omega] at this
  · have := runN_stop blankB l.reverse (by rw [List.length_reverse]; omega)
    rw [hg _ (by omega)] at this
    rwa [show l.length - runN blankB l.reverse - 1 = l.length - 1 - runN blankB l.reverse by omega]
theorem index_colon : ∀ {l : List Int}, Bytes l → Lib.index (Lib.bytesOf l) [58] = if runN (fun x => decide (x ≠ 58)) l = l.length then -1 else (runN (fun x => decide (x ≠ 58)) l : Int)
  | [], _ => rfl
  | x :: l, h => by
    have ih := index_colon (l := l) (fun y hy => h y (List.mem_cons_of_mem _ hy))
    have hb := byte_eq8 (h x (by simp)) 58 (by decide)
    have hle := runN_le (fun x => decide (x ≠ 58)) l
    rw [bytesOf_cons, Lib.index, ih, runN]
    have hp : ([58] : List UInt8).isPrefixOf (UInt8.ofNat x.toNat :: Lib.bytesOf l) = decide (x = 58) := by
      rw [Bool.eq_iff_iff]
      simp only [List.isPrefixOf, Bool.and_true, beq_iff_eq, decide_eq_true_eq]
      exact ⟨fun e => hb.1 e.symm, fun e => (hb.2 e).symm⟩
    rw [hp]
    generalize runN (fun x => decide (x ≠ 58)) l = k at *
    by_cases hx : x = 58
    · simp [hx]
    · have h1 : decide (x = 58) = false := decide_eq_false hx
      have h2 : decide (x ≠ 58) = true := decide_eq_true hx
      rw [h1, h2, if_neg (by decide), if_pos rfl, List.length_cons]
      by_cases he : k = l.length
      · rw [if_pos he, if_pos (show ((-1 : Int) == -1) = true from rfl), if_pos (show k + 1 = l.length + 1 by omega)]
      · rw [if_neg he, if_neg (show ¬ ((k : Int) == -1) = true by rw [beq_iff_eq]; omega), if_neg (show ¬ k + 1 = l.length + 1 by omega)]; push_cast; rfl
theorem cut_colon {l : List Int} (h : Bytes l) : ∃ b, Lib.cut (Lib.bytesOf l) [58] = (Lib.bytesOf (l.take (runN (fun x => decide (x ≠ 58)) l)), Lib.bytesOf (l.drop (runN (fun x => decide (x ≠ 58)) l + 1)), b) := by
  unfold Lib.cut
  rw [index_colon h]
  by_cases he : runN (fun x => decide (x ≠ 58)) l = l.length
  · refine ⟨false, ?_⟩
    have e1 : l.take (runN (fun x => decide (x ≠ 58)) l) = l := by rw [he, List.take_length]
    have e2 : l.drop (runN (fun x => decide (x ≠ 58)) l + 1) = [] := List.drop_of_length_le (by omega)
    rw [e1, e2, if_pos he, if_neg (by decide)]
    rfl
  · refine ⟨true, ?_⟩
    rw [if_neg he, if_pos (by omega)]
    simp only [Int.toNat_natCast, bytesOf_take, bytesOf_drop, List.length_singleton]
theorem head_crlf {l : List Int} (h : Bytes l) : Lib.hasPrefix (Lib.bytesOf l) (Lib.bytesOf [13, 10]) = crlfH l := by
  unfold Lib.hasPrefix
  rw [crlf_bytesOf]
  cases l with
  | nil => rfl
  | cons x l =>
    rw [pre_crlf h, crlfH_get]
    apply decide_eq_decide.2
    cases l with
    | nil => simp
    | cons y l => simp
def ML (w : World) : Prop := ∃ m, w.cell? ⟨0, 0, none⟩ = some (.int .i64 m)
theorem ML.mod {F : List Nat} {w w' : World} (h : ML w) (hm : Mod F w w') (hF : 0 ∉ F) : ML w' := by
  obtain ⟨m, h⟩ := h
  exact ⟨m, hm.cell h hF⟩
theorem ML.quiet {w w' : World} (h : ML w) (hm : Mod [] w w') : ML w' := h.mod hm (by simp)
theorem ML.lt {w : World} (h : ML w) : 1 ≤ w.heap.size := by
  obtain ⟨m, h⟩ := h
  have := World.block_lt_of_cell? w _ h
  exact this
theorem mod_drewN (w : World) (n : Nat) : Mod [] w (w.drewN n) := ⟨rfl, rfl, rfl, Nat.le_refl _, fun _ _ _ => rfl⟩
/-- Cut at a colon -/
theorem cut_any (s : ByteArray) (w : World) (hM : ML w) (hs : s.size ≤ 1000000) : Calls Tryd.prog 40 #[.string s, .string { data := #[58] }] w fun e w' => ∃ (a b : ByteArray) (q : Bool), e = .returned (.tuple #[.string a, .string b, .bool q]) ∧ nums a = (nums s).take (runN (fun x => decide (x ≠ 58)) (nums s)) ∧ nums b = (nums s).drop (runN (fun x => decide (x ≠ 58)) (nums s) + 1) ∧ Mod [] w w' := by
  obtain ⟨m, hm⟩ := hM
  refine (Tryd.strings_Cut s { data := #[58] } m w (by omega) hm).mono ?_
  rintro e w' ⟨rfl, n, rfl⟩
  obtain ⟨q, hq⟩ := cut_colon (nums_bytes s)
  rw [bytesOf_nums] at hq
  refine ⟨_, _, _, rfl, ?_, ?_, mod_drewN _ _⟩
  · show nums ⟨(Lib.cut s.data.toList [58]).1.toArray⟩ = _
    rw [hq]; exact nums_bytesOf ((nums_bytes s).take _)
  · show nums ⟨(Lib.cut s.data.toList [58]).2.1.toArray⟩ = _
    rw [hq]; exact nums_bytesOf ((nums_bytes s).drop _)
theorem replace_any (s : ByteArray) (w : World) (hM : ML w) (hs : s.size ≤ 1000000) : Calls Tryd.prog 42 #[.string s, .string { data := #[13, 10] }, .string { data := #[] }] w fun e w' => ∃ (a : ByteArray), e = .returned (.string a) ∧ nums a = strip (nums s) ∧ Mod [] w w' := by
  obtain ⟨m, hm⟩ := hM
  refine (Tryd.strings_ReplaceAll s { data := #[13, 10] } { data := #[] } m w (by omega) hm (by decide) (by show s.size + _ * 0 ≤ _; omega)).mono ?_
  rintro e w' ⟨rfl, hb⟩
  refine ⟨_, rfl, ?_, Mod.ofBelow hb⟩
  show nums ⟨(Lib.replaceAll s.data.toList crlf8 []).toArray⟩ = _
  rw [← bytesOf_nums, replaceAll_strip (nums_bytes s)]
  exact nums_bytesOf (strip_bytes (nums_bytes s))
theorem bytes_dropWhile {p : Int → Bool} : ∀ {l : List Int}, Bytes l → Bytes (l.dropWhile p)
  | [], h => h
  | x :: l, h => by
    rw [List.dropWhile_cons]
    split
    · exact bytes_dropWhile (fun y hy => h y (List.mem_cons_of_mem _ hy))
    · exact h
theorem trimL_any (s : ByteArray) (w : World) : Calls Tryd.prog 41 #[.string s, .string { data := #[32, 9] }] w fun e w' => ∃ (a : ByteArray), e = .returned (.string a) ∧ nums a = (nums s).dropWhile blankB ∧ Mod [] w w' := by
  refine (Any.strings_TrimLeft_laid Tryd.lays161 (by kernel_rfl) s { data := #[32, 9] } w (by decide) (ascii_of_all (by decide))).mono ?_
  rintro e w' ⟨rfl, hb⟩
  refine ⟨_, rfl, ?_, Mod.ofBelow hb⟩
  show nums ⟨(Lib.trimLeftS s.data.toList [32, 9]).toArray⟩ = _
  rw [← bytesOf_nums, trimLeft_blank (nums_bytes s)]
  exact nums_bytesOf (bytes_dropWhile (nums_bytes s))
theorem trimR_any (s : ByteArray) (w : World) (hs : s.size ≤ 1000000) : Calls Tryd.prog 36 #[.string s, .string { data := #[32, 9] }] w fun e w' => ∃ (a : ByteArray), e = .returned (.string a) ∧ a.size = trimN (nums s) ∧ Mod [] w w' := by
  refine (Any.strings_TrimRight_laid Tryd.lays162 (by kernel_rfl) s { data := #[32, 9] } w (by omega) (by decide) (ascii_of_all (by decide))).mono ?_
  rintro e w' ⟨rfl, hb⟩
  refine ⟨_, rfl, ?_, Mod.ofBelow hb⟩
  show (Lib.trimRightS s.data.toList [32, 9]).toArray.size = _
  rw [← bytesOf_nums, List.size_toArray, trimRight_len (nums_bytes s)]
theorem bytesIn {w : World} {a : Option Addr} {n : Nat} {l : List Int} (hn : n = l.length) (h : Cells8 w a l) : Lib.BytesIn w a n l := by
  unfold Lib.BytesIn
  intro h0
  rcases h.2 with rfl | ⟨b, o, rfl, hc⟩
  · simp at hn; omega
  · exact ⟨b, o, rfl, fun i hi => hc i (by omega)⟩
def CloneP (l : List Int) (w : World) (e : Ending) (w' : World) : Prop := ∃ a' n' c', e = .returned (.slice a' n' c') ∧ w'.ownsRow w.heap.size 5 1 (.slice a' n' c') n' (u8s l) ∧ Mod [] w w'
theorem clone_any (w : World) (a : Option Addr) (n cap : Nat) (l : List Int) (h : Bin w a n cap l) (hl : l.length ≤ 1000000) : Calls Tryd.prog 32 #[.slice a n cap] w (CloneP l w) := by
  have hn := h.len
  subst hn
  cases a with
  | none =>
    refine (Tryd.bytes_Clone_nil _ _ _).mono ?_
    rintro e w' ⟨rfl, rfl⟩
    have hc := h.nil rfl
    have hle := h.le
    have : l = [] := List.eq_nil_of_length_eq_zero (by omega)
    subst this
    exact ⟨none, 0, 0, rfl, World.ownsRow_nil _ _ _ _, Mod.refl _ _⟩
  | some x =>
    refine (Tryd.bytes_Clone_at x l.length cap l w rfl (by omega) ?_).mono ?_
    · intro i hi
      obtain ⟨b, o, he, -⟩ := h.cells.addr (by omega)
      simp only [Option.some.injEq] at he
      subst he
      rw [Addr.add_lit]
      exact h.cells.at i hi
    · rintro e w' ⟨v, rfl, h1, h2, h3⟩
      obtain ⟨a', c', rfl, -, -⟩ := owns_shape h1
      exact ⟨a', _, c', rfl, h1, Mod.ofBelow h3⟩
end Go.Proofs.YticdpepkmplfiaaDoor
