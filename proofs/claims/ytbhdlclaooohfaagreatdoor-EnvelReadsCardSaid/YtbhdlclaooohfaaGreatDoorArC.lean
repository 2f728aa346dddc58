import Derived.Test.YtbhdlclaooohfaaGreatDoorAdO
/- quoted, small, lowered. -/
namespace Go.Proofs.YtbhdlclaooohfaaGreatDoor.Ad
open Go.Shelf Go.ChangeShapes Go.WideShapes Go.ChangeAt Go.RowKit
set_option linter.unusedVariables false
set_option linter.unusedSimpArgs false

def escL (c : Int) : List Int := if c = 34 ∨ c = 92 then [92, c] else [c]
theorem quoteL_esc (l : List Int) : quoteL l = 34 :: l.flatMap escL ++ [34] := rfl
theorem escL_bytes {c : Int} (h : 0 ≤ c ∧ c < 256) : Bytes (escL c) := by
  intro x hx
  unfold escL at hx
  split at hx <;> simp at hx <;> omega
theorem flat_bytes {l : List Int} (h : Bytes l) : Bytes (l.flatMap escL) := by
  intro x hx
  obtain ⟨c, hc, hx⟩ := List.mem_flatMap.1 hx
  exact escL_bytes (h c hc) x hx
theorem escL_len (c : Int) : (escL c).length ≤ 2 := by unfold escL; split <;> simp
theorem flat_len (l : List Int) : (l.flatMap escL).length ≤ 2 * l.length := by
  induction l with
  | nil => simp
  | cons c l ih => have := escL_len c; simp only [List.flatMap_cons, List.length_append, List.length_cons]; omega
theorem take_succ_at (l : List Int) (k : Nat) (h : k < l.length) : l.take (k + 1) = l.take k ++ [l.getD k 0] := by
  rw [List.take_succ_eq_append_getElem h]; simp [List.getD, h]
theorem amongB_esc (c : Int) : amongB [34, 92] c = decide (c = 34 ∨ c = 92) := by
  rw [Bool.eq_iff_iff]; simp [amongB]

/-- what is written so far -/
def qK (l : List Int) (k : Nat) : List Int := 34 :: (l.take k).flatMap escL
theorem qK_step {l : List Int} {k : Nat} (h : k < l.length) : qK l (k + 1) = qK l k ++ escL (l.getD k 0) := by
  unfold qK; rw [take_succ_at l k h]; simp
theorem qK_len (l : List Int) (k : Nat) : (qK l k).length ≤ 2 * l.length + 1 := by
  unfold qK
  have := flat_len (l.take k)
  have h2 : (l.take k).length ≤ l.length := List.length_take_le' ..
  simp only [List.length_cons]
  omega
theorem qK_bytes {l : List Int} (h : Bytes l) (k : Nat) : Bytes (qK l k) := by
  intro x hx
  rcases List.mem_cons.1 hx with rfl | hx
  · omega
  · exact flat_bytes (h.take k) x hx

def StrP (l : List Int) (w : World) (e : Ending) (w' : World) : Prop := e = .returned (.string (strOfNums l)) ∧ Below w.heap.size w w'

end Go.Proofs.YtbhdlclaooohfaaGreatDoor.Ad

/- small, lowered. -/
namespace Go.Proofs.YtbhdlclaooohfaaGreatDoor.Ad
open Go.Shelf Go.ChangeShapes Go.WideShapes Go.ChangeAt Go.RowKit
set_option linter.unusedVariables false
set_option linter.unusedSimpArgs false

/-- a row of bytes that a text was turned into -/
def RowF (w : World) (g cap : Nat) (l : List Int) : Prop := ∃ cur, w.heap[g]? = some (.cells cur 5 (cap, cap + 1)) ∧ cur.size = cap ∧ l.length ≤ cap ∧ cur.toList.take l.length = u8s l
theorem RowF.cell {w : World} {g cap : Nat} {l : List Int} (h : RowF w g cap l) (i : Nat) (hi : i < l.length) : w.cell? ⟨g, i, none⟩ = some (.int .u8 (l.getD i 0)) := by
  obtain ⟨cur, h1, h2, h3, h4⟩ := h
  rw [cell_of_row w g i cur _ _ h1]
  have h5 : cur[i]? = (cur.toList.take l.length)[i]? := by rw [List.getElem?_take, if_pos hi]; simp
  rw [h5, h4]
  simp [List.getD, hi]
theorem RowF.free {w : World} {g cap : Nat} {l : List Int} (h : RowF w g cap l) (i : Nat) (hi : i < l.length) : w.frozen? ⟨g, i, none⟩ = false := by
  obtain ⟨cur, h1, h2, h3, h4⟩ := h
  simp [World.frozen?, h1]
  omega
theorem RowF.set {w : World} {g cap : Nat} {l : List Int} (h : RowF w g cap l) (i : Nat) (x : Int) : RowF (w.setCell ⟨g, i, none⟩ (.int .u8 x)) g cap (l.set i x) := by
  obtain ⟨cur, h1, h2, h3, h4⟩ := h
  refine ⟨cur.setIfInBounds i (.int .u8 x), by simp [World.setCell, Array.getElem?_modify, h1], by simpa using h2, by simpa using h3, ?_⟩
  rw [Array.toList_setIfInBounds, List.length_set, List.take_set, h4, u8s_set]
theorem RowF.mod {F : List Nat} {w w' : World} {g cap : Nat} {l : List Int} (h : RowF w g cap l) (hm : Mod F w w') (hF : g ∉ F) : RowF w' g cap l := by
  obtain ⟨cur, h1, h2⟩ := h
  exact ⟨cur, hm.row h1 hF, h2⟩
theorem RowF.cells8 {w : World} {g cap : Nat} {l : List Int} (h : RowF w g cap l) (hb : Bytes l) : Cells8 w (some ⟨g, 0, none⟩) l :=
  ⟨hb, .inr ⟨g, 0, rfl, fun i hi => by rw [Nat.zero_add]; exact h.cell i hi⟩⟩
theorem conv_row (w : World) (s : ByteArray) : ∃ cap w', (convert 9 22 (.string s)).run Tryz.prog w = .ok (.slice (some ⟨w.heap.size, 0, none⟩) s.size cap) w' ∧ RowF w' w.heap.size cap (nums s) ∧ Mod [] w w' ∧ w'.heap.size = w.heap.size + 1 ∧ s.size ≤ cap := by
  refine ⟨_, _, run_bytes_of_string w 9 22 5 s Tryz.underlying9 Tryz.underlying22 Tryz.underlying5, ?_, ((Mod.refl [] w).drew).alloc _, by simp, grownCap_ge w s.size 0 _⟩
  have hcap := grownCap_ge w s.size 0 5
  have hsz : s.data.size = s.size := rfl
  have hbs : (bytesRow s (grownCap w s.size 0 5)).size = grownCap w s.size 0 5 := by simp [bytesRow]; omega
  have hrow := heap_alloc_new w.drew (.cells (bytesRow s (grownCap w s.size 0 5)) 5 ((bytesRow s (grownCap w s.size 0 5)).size, (bytesRow s (grownCap w s.size 0 5)).size + 1))
  refine ⟨bytesRow s (grownCap w s.size 0 5), ?_, hbs, by rw [nums_length]; exact hcap, ?_⟩
  · have e : (w.drew).heap.size = w.heap.size := rfl
    rw [e] at hrow
    rw [hrow, hbs]
  · rw [nums_length]
    have : s.size = (s.data.map (fun b => Value.int .u8 (b.toNat : Int))).toList.length := by simp
    unfold bytesRow
    rw [Array.toList_append, this, List.take_left]
    simp [nums]

/-- the first k bytes small -/
def lowK (l : List Int) (k : Nat) : List Int := (l.take k).map lowC ++ l.drop k
theorem lowK_len (l : List Int) (k : Nat) (hk : k ≤ l.length) : (lowK l k).length = l.length := by simp [lowK]; omega
theorem lowK_getD {l : List Int} {k : Nat} (h : k < l.length) : (lowK l k).getD k 0 = l.getD k 0 := by
  unfold lowK
  simp only [List.getD]
  rw [List.getElem?_append_right (by simp; omega)]
  simp [show min k l.length = k by omega]
theorem lowK_step {l : List Int} {k : Nat} (h : k < l.length) : lowK l (k + 1) = (lowK l k).set k (lowC (l.getD k 0)) := by
  have hl : ((l.take k).map lowC).length = k := by simp; omega
  unfold lowK
  rw [take_succ_at l k h, List.map_append, List.set_append_right k _ (by omega), hl, Nat.sub_self]
  rw [show l.drop k = l.getD k 0 :: l.drop (k + 1) from drop_at h]
  simp
theorem lowK_same {l : List Int} {k : Nat} (h : k < l.length) (hc : lowC (l.getD k 0) = l.getD k 0) : lowK l (k + 1) = lowK l k := by
  rw [lowK_step h, hc, ← lowK_getD h]
  have hl : k < (lowK l k).length := by rw [lowK_len l k (by omega)]; exact h
  simp [List.getD, hl]
theorem lowC_bytes {c : Int} (h : 0 ≤ c ∧ c < 256) : 0 ≤ lowC c ∧ lowC c < 256 := by unfold lowC; split <;> omega
theorem lowL_bytes {l : List Int} (h : Bytes l) : Bytes (lowL l) := by
  intro x hx
  obtain ⟨c, hc, rfl⟩ := List.mem_map.1 hx
  exact lowC_bytes (h c hc)

end Go.Proofs.YtbhdlclaooohfaaGreatDoor.Ad

/- The reference: alnum, Atom, plain, split, label. -/
namespace Go.Proofs.YtbhdlclaooohfaaGreatDoor.Ad
open Go.Shelf Go.ChangeShapes Go.WideShapes Go.ChangeAt Go.RowKit
set_option linter.unusedVariables false
set_option linter.unusedSimpArgs false

set_option maxHeartbeats 1000000 in
theorem ralnum_any (c : Int) (w : World) : Calls Tryz.prog 96 #[.int .u8 c] w fun e w' => e = .returned (.bool (alB c)) ∧ w = w' := by
  go_enter Tryz.func96, Tryz.ntmps96
  go_wp2_with fail
  all_goals
    go_ret
    exact ⟨ret_bool (by rw [Bool.eq_iff_iff]; simp [alB, spanB, *]; try omega), rfl⟩

set_option maxHeartbeats 1000000 in
theorem rplain_any (c : Int) (w : World) : Calls Tryz.prog 64 #[.int .u8 c] w fun e w' => e = .returned (.bool (prB c)) ∧ w = w' := by
  go_enter Tryz.func64, Tryz.ntmps64
  go_wp2_with fail
  all_goals
    go_ret
    exact ⟨ret_bool (by rw [Bool.eq_iff_iff]; simp [prB, spanB, *]; try omega), rfl⟩

theorem others_size : ({ data := #[33, 35, 36, 37, 38, 39, 42, 43, 45, 47, 61, 63, 94, 95, 96, 123, 124, 125, 126] } : ByteArray).size = 19 := by decide
theorem others_nums : nums { data := #[33, 35, 36, 37, 38, 39, 42, 43, 45, 47, 61, 63, 94, 95, 96, 123, 124, 125, 126] } = othersL := by decide +kernel
def NotIn (c : Int) (k : Nat) : Prop := ∀ i, i < k → othersL.getD i 0 ≠ c
theorem notIn_all {c : Int} (h : NotIn c 19) : amongB othersL c = false := by
  unfold amongB
  rw [Bool.eq_false_iff]
  intro hc
  rw [List.contains_iff_mem] at hc
  obtain ⟨i, hi, he⟩ := List.getElem_of_mem hc
  have hi' : i < 19 := hi
  exact h i hi' (by simp [List.getD, hi, he])
theorem in_at {c : Int} {k : Nat} (hk : k < 19) (h : othersL.getD k 0 = c) : amongB othersL c = true := by
  unfold amongB
  rw [List.contains_iff_mem]
  have hk' : k < othersL.length := hk
  rw [← h]
  simp only [List.getD, List.getElem?_eq_getElem hk', Option.getD_some]
  exact List.getElem_mem hk'

/-- the first k bytes are a label's -/
def LaK (l : List Int) (k : Nat) : Prop := (l.take k).all laB = true
theorem LaK.step {l : List Int} {k : Nat} (h : LaK l k) (hk : k < l.length) (hb : laB (l.getD k 0) = true) : LaK l (k + 1) := by
  unfold LaK; rw [take_succ_at l k hk, List.all_append, h]; simp only [List.all_cons, List.all_nil, hb]; rfl
theorem labB_no {l : List Int} {k : Nat} (hk : k < l.length) (hb : laB (l.getD k 0) = false) : labB l = false := by
  unfold labB
  have : l.all laB = false := by
    rw [List.all_eq_false]
    refine ⟨l[k], List.getElem_mem hk, ?_⟩
    have e : l.getD k 0 = l[k] := by simp [List.getD, hk]
    rw [← e, hb]; simp
  rw [this]; simp
theorem laB_eq (c : Int) : laB c = (alB c || (c == 45)) := by
  unfold laB amongB; congr 1
  rw [Bool.eq_iff_iff]; simp
theorem labB_end {l : List Int} (h : LaK l l.length) : labB l = (decide (0 < l.length) && (l.getD 0 0 != 45) && (l.getD (l.length - 1) 0 != 45)) := by
  have hall : l.all laB = true := by unfold LaK at h; rwa [List.take_length] at h
  unfold labB
  rw [hall]
  cases l with
  | nil => simp
  | cons c t =>
    have e : (c :: t).getLastD 0 = (c :: t).getD ((c :: t).length - 1) 0 := by
      rw [List.getLastD_eq_getLast?, List.getLast?_eq_getElem?]; rfl
    rw [e]
    simp

set_option maxHeartbeats 2000000 in
theorem rlabel_any (s : ByteArray) (w : World) (hs : s.size ≤ 100000) : Calls Tryz.prog 89 #[.string s] w fun e w' => e = .returned (.bool (labB (nums s))) ∧ w = w' := by
  have HL := Lib.hid (nums_length s)
  go_enter Tryz.func89, Tryz.ntmps89
  go_wp2_with fail
  go_loop [3] (fun i => ∃ k : Nat, i = .int .i64 k ∧ k ≤ s.size ∧ LaK (nums s) k) (fun i => (s.size - intOf i).toNat)
  case atStart => exact ⟨0, rfl, by omega, by simp [LaK]⟩
  case round =>
    obtain ⟨k, rfl, hk, hno⟩ := hrel
    have HN := Lib.hid hno
    clear hno
    by_cases hlt : k < s.size
    · have hst := str_at s k hlt
      have hkl : k < (nums s).length := by rw [HL.out]; exact hlt
      have HKl := Lib.hid hkl
      clear hkl
      generalize hb : ((s[k].toNat : Nat) : Int) = b at *
      have HB := Lib.hid hst
      clear hst
      have HAl := Lib.hid (ralnum_any b w)
      generalize hal : alB b = q at HAl
      have HQ := Lib.hid hal
      clear hal
      cases q
      · by_cases h45 : b = 45
        · have he : (b != 45) = false := by simp [h45]
          have H45 := Lib.hid h45
          clear h45
          go_wp2_with ((go_at_call 96; refine HAl.out.mono ?_); rintro e w1 ⟨rfl, rfl⟩)
          go_round
          case rel => exact ⟨k + 1, by go_num, by omega, HN.out.step HKl.out (by rw [← HB.out, laB_eq, H45.out]; decide)⟩
          case measure => simp [intOf]; omega
        · have he : (b != 45) = true := by simp [h45]
          go_wp2_with ((go_at_call 96; refine HAl.out.mono ?_); rintro e w1 ⟨rfl, rfl⟩)
          go_ret
          exact ⟨ret_bool (labB_no HKl.out (by rw [← HB.out, laB_eq, HQ.out]; simp [h45])).symm, rfl⟩
      · go_wp2_with ((go_at_call 96; refine HAl.out.mono ?_); rintro e w1 ⟨rfl, rfl⟩)
        go_round
        case rel => exact ⟨k + 1, by go_num, by omega, HN.out.step HKl.out (by rw [← HB.out, laB_eq, HQ.out]; rfl)⟩
        case measure => simp [intOf]; omega
    · have hke : k = s.size := by omega
      have hend := labB_end (l := nums s) (by rw [HL.out, ← hke]; exact HN.out)
      rw [HL.out] at hend
      have HEnd := Lib.hid hend
      clear hend hke
      by_cases h0 : 0 < s.size
      · have h0' : (0 : Int) < (s.size : Int) := by omega
        have hst0 := str_at s 0 h0
        have hst1 := str_at s (s.size - 1) (by omega)
        have HS0 := Lib.hid hst0
        have HS1 := Lib.hid hst1
        have hI : (1 : Int) ≤ (s.size : Int) := by omega
        have hd0 : decide (0 < s.size) = true := decide_eq_true h0
        have HD0 := Lib.hid hd0
        clear hst0 hst1 hd0
        by_cases e0 : ((s[0].toNat : Nat) : Int) = 45
        · have he0 : (((s[0].toNat : Nat) : Int) != 45) = false := by rw [e0]; rfl
          have HE0 := Lib.hid he0
          clear e0
          go_wp2_with fail
          go_ret
          exact ⟨ret_bool (by rw [HEnd.out, ← HS0.out, HE0.out]; simp), rfl⟩
        · have he0 : (((s[0].toNat : Nat) : Int) != 45) = true := by simpa using e0
          have HE0 := Lib.hid he0
          clear e0
          go_wp2_with fail
          go_ret
          exact ⟨ret_bool (by rw [HEnd.out, ← HS0.out, ← HS1.out, HE0.out, HD0.out]; rfl), rfl⟩
      · have h0' : (s.size : Int) ≤ 0 := by omega
        have hd0 : decide (0 < s.size) = false := decide_eq_false h0
        have HD0 := Lib.hid hd0
        clear hd0
        go_wp2_with fail
        go_ret
        exact ⟨ret_bool (by rw [HEnd.out, HD0.out]; rfl), rfl⟩
end Go.Proofs.YtbhdlclaooohfaaGreatDoor.Ad

/- The reference: split, labels, atoms, Domain. -/
namespace Go.Proofs.YtbhdlclaooohfaaGreatDoor.Ad
open Go.Shelf Go.ChangeShapes Go.WideShapes Go.ChangeAt Go.RowKit
set_option linter.unusedVariables false
set_option linter.unusedSimpArgs false

theorem nums_nil' {s : ByteArray} : s.toList = [] ↔ nums s = [] := by
  rw [Lib.toList_data]; unfold nums; simp
def joinF (pre : List Int) (L : List (List Int)) : List (List Int) := match L with | [] => [pre] | p :: ps => (pre ++ p) :: ps
theorem joinF_nil (L : List (List Int)) (h : L ≠ []) : joinF [] L = L := by
  cases L with
  | nil => exact absurd rfl h
  | cons p ps => rfl
theorem splitL_cons_ne {c x : Int} (h : ¬ x = c) (t : List Int) : splitL c (x :: t) = joinF [x] (splitL c t) := by
  rw [splitL, if_neg h]
  cases splitL c t <;> rfl
theorem splitL_cons_eq {c : Int} (t : List Int) : splitL c (c :: t) = [] :: splitL c t := by rw [splitL, if_pos rfl]
theorem joinF_joinF (a b : List Int) (L : List (List Int)) : joinF a (joinF b L) = joinF (a ++ b) L := by
  cases L <;> simp [joinF]

/-- the parts so far, the part that is under way, what is to come -/
def SpI (c : Int) (l : List Int) (fr i : Nat) (ps : List (List Int)) : Prop :=
  fr ≤ i ∧ ps.length ≤ i ∧ ((i ≤ l.length ∧ splitL c l = ps ++ joinF ((l.drop fr).take (i - fr)) (splitL c (l.drop i))) ∨ (i = l.length + 1 ∧ splitL c l = ps))
theorem SpI.start (c : Int) (l : List Int) : SpI c l 0 0 [] := ⟨Nat.le_refl _, Nat.le_refl _, .inl ⟨Nat.zero_le _, by simp [joinF_nil _ (splitL_ne c l)]⟩⟩
theorem take_more {l : List Int} {fr i : Nat} (h1 : fr ≤ i) (h2 : i < l.length) : (l.drop fr).take (i + 1 - fr) = (l.drop fr).take (i - fr) ++ [l.getD i 0] := by
  have e : i + 1 - fr = (i - fr) + 1 := by omega
  rw [e, take_succ_at _ _ (by simp; omega)]
  congr 2
  simp only [List.getD, List.getElem?_drop]
  congr 2
  omega
theorem SpI.same {c : Int} {l : List Int} {fr i : Nat} {ps : List (List Int)} (h : SpI c l fr i ps) (hi : i < l.length) (hx : ¬ l.getD i 0 = c) : SpI c l fr (i + 1) ps := by
  obtain ⟨h1, h2, h3⟩ := h
  refine ⟨by omega, by omega, .inl ⟨by omega, ?_⟩⟩
  rcases h3 with ⟨_, h3⟩ | ⟨h3, _⟩
  · rw [h3, drop_at hi, splitL_cons_ne hx, joinF_joinF, take_more h1 hi]
  · omega
theorem SpI.cut {c : Int} {l : List Int} {fr i : Nat} {ps : List (List Int)} (h : SpI c l fr i ps) (hi : i < l.length) (hx : l.getD i 0 = c) : SpI c l (i + 1) (i + 1) (ps ++ [(l.drop fr).take (i - fr)]) := by
  obtain ⟨h1, h2, h3⟩ := h
  refine ⟨Nat.le_refl _, by simp; omega, .inl ⟨by omega, ?_⟩⟩
  rcases h3 with ⟨_, h3⟩ | ⟨h3, _⟩
  · rw [h3, drop_at hi, hx, splitL_cons_eq]
    simp [joinF, joinF_nil _ (splitL_ne c _)]
    cases hs : splitL c (l.drop (i + 1)) with
    | nil => exact absurd hs (splitL_ne c _)
    | cons p ps => rfl
  · omega
theorem SpI.fin {c : Int} {l : List Int} {fr : Nat} {ps : List (List Int)} (h : SpI c l fr l.length ps) : SpI c l (l.length + 1) (l.length + 1) (ps ++ [(l.drop fr).take (l.length - fr)]) := by
  obtain ⟨h1, h2, h3⟩ := h
  refine ⟨Nat.le_refl _, by simp; omega, .inr ⟨rfl, ?_⟩⟩
  rcases h3 with ⟨_, h3⟩ | ⟨h3, _⟩
  · rw [h3, List.drop_eq_nil_of_le (Nat.le_refl _)]; simp [splitL, joinF]
  · omega
theorem SpI.done {c : Int} {l : List Int} {fr i : Nat} {ps : List (List Int)} (h : SpI c l fr i ps) (hi : l.length < i) : splitL c l = ps ∧ i = l.length + 1 := by
  rcases h.2.2 with ⟨h3, _⟩ | ⟨h3, h4⟩
  · omega
  · exact ⟨h4, h3⟩

/-- texts as cells -/
def stV (ps : List (List Int)) : List Value := ps.map fun p => Value.string (strOfNums p)
theorem stV_len (ps : List (List Int)) : (stV ps).length = ps.length := by simp [stV]
theorem info_str : (Tryz.prog.info? 9).map (fun i => (i.zero, i.size, i.bytes)) = some (some (.string ⟨#[]⟩), 1, 16) := by kernel_rfl
/-- a slice of the call's own that holds texts -/
def Sts (B : Nat) (w : World) (v : Value) (ps : List (List Int)) : Prop := w.ownsRow B 9 1 v ps.length (stV ps)
def SplitP (c : Int) (l : List Int) (w : World) (e : Ending) (w' : World) : Prop := ∃ v, e = .returned v ∧ Sts w.heap.size w' v (splitL c l) ∧ Below w.heap.size w w' ∧ (splitL c l).length ≤ l.length + 1

set_option maxHeartbeats 4000000 in
theorem rsplit_any (s : ByteArray) (c : Int) (w : World) (hs : s.size ≤ 100000) : Calls Tryz.prog 88 #[.string s, .int .u8 c] w (SplitP c (nums s) w) := by
  have HL := Lib.hid (nums_length s)
  go_enter Tryz.func88, Tryz.ntmps88
  go_wp2_with fail
  go_loopw [5, 6, 7] (fun v f x wr => ∃ (fr i : Nat) (ps : List (List Int)), f = .int .i64 fr ∧ x = .int .i64 i ∧ SpI c (nums s) fr i ps ∧ Sts w.heap.size wr v ps ∧ Mod [] w wr) (fun _ _ x _ => (s.size + 1 - intOf x).toNat)
  case atStart => exact ⟨0, 0, [], rfl, rfl, SpI.start _ _, World.ownsRow_nil _ _ _ _, Mod.refl _ _⟩
  case round =>
    obtain ⟨fr, i, ps, rfl, rfl, hsp, hst, hm⟩ := hrel
    have HSp := Lib.hid hsp
    have HSt := Lib.hid hst
    have HM := Lib.hid hm
    have h1 := hsp.1
    have h2 := hsp.2.1
    have hsz := hm.size
    obtain ⟨av, cv, rfl, hob, _⟩ := owns_shape hst
    have hown : wr.ownsRow w.heap.size 9 1 (.slice av ps.length cv) (stV ps).length (stV ps) := by rw [stV_len]; exact hst
    have HO := Lib.hid hown
    clear hsp hst hm hob hown
    by_cases hle : i ≤ s.size
    · have hpl : (stV ps).length ≤ 1000000000 := by rw [stV_len]; omega
      by_cases hlt : i < s.size
      · have hil : i < (nums s).length := by rw [HL.out]; exact hlt
        have HIl := Lib.hid hil
        have hne : ((i : Int) == (s.size : Int)) = false := by simp; omega
        have hbt := str_at s i hlt
        have HBt := Lib.hid hbt
        clear hil hbt
        by_cases hbc : ((s[i].toNat : Nat) : Int) = c
        · have hbe : (((s[i].toNat : Nat) : Int) == c) = true := by simp [hbc]
          have HCut := Lib.hid (HSp.out.cut HIl.out (HBt.out.symm.trans hbc))
          have hI : (fr : Int) ≤ (i : Int) := by omega
          have hI2 : (i : Int) ≤ (s.size : Int) := by omega
          have hex := extract_nums s fr i
          have HEx := Lib.hid hex
          clear hbc hex
          go_wp2_with (at_builtin; refine wpList_app1 _ rfl _ _ 131 131 rfl 9 _ 16 Tryz.underlying131 Tryz.underlying131 info_str rfl (by decide) w.heap.size wr _ (stV ps) rfl HO.out (.string (s.extract fr i)) rfl rfl hsz wr.heap.size rfl rfl hpl ?_)
          intro v5 w5 ho5 hm5
          have hm5' : Mod [] w w5 := HM.out.trans' hm5 (fun x hx => Or.inr (HO.out.lt x (by simpa using hx)).1)
          have HM5 := Lib.hid hm5'
          rw [HEx.out] at ho5
          have ho6 : Sts w.heap.size w5 v5 (ps ++ [((nums s).drop fr).take (i - fr)]) := by
            unfold Sts
            have e1 : stV (ps ++ [((nums s).drop fr).take (i - fr)]) = stV ps ++ [Value.string (strOfNums (((nums s).drop fr).take (i - fr)))] := by simp [stV]
            have e2 : (ps ++ [((nums s).drop fr).take (i - fr)]).length = (stV ps).length + 1 := by simp [stV_len]
            rw [e1, e2]; exact ho5
          have HO6 := Lib.hid ho6
          obtain ⟨a5, c5, rfl, hob, _⟩ := owns_shape ho5
          clear ho5 hm5 hm5' ho6 hob
          go_wp2_with fail
          go_roundw
          case rel => exact ⟨i + 1, i + 1, _, by go_num, by go_num, HCut.out, HO6.out, HM5.out⟩
          case measure => simp [intOf]; omega
        · have hbe : (((s[i].toNat : Nat) : Int) == c) = false := by simp [hbc]
          have HSame := Lib.hid (HSp.out.same HIl.out (by rw [← HBt.out]; exact hbc))
          clear hbc
          go_wp2_with fail
          go_roundw
          case rel => exact ⟨fr, i + 1, ps, rfl, by go_num, HSame.out, HSt.out, HM.out⟩
          case measure => simp [intOf]; omega
      · obtain rfl : i = s.size := by omega
        have he : (((s.size : Nat) : Int) == (s.size : Int)) = true := by simp
        have hI : (fr : Int) ≤ (s.size : Int) := by omega
        have HCut : Hid (SpI c (nums s) (s.size + 1) (s.size + 1) (ps ++ [((nums s).drop fr).take (s.size - fr)])) := Lib.hid (by
          have := HSp.out
          rw [← HL.out] at this ⊢
          exact this.fin)
        have hex := extract_nums s fr s.size
        have HEx := Lib.hid hex
        clear hex
        go_wp2_with (at_builtin; refine wpList_app1 _ rfl _ _ 131 131 rfl 9 _ 16 Tryz.underlying131 Tryz.underlying131 info_str rfl (by decide) w.heap.size wr _ (stV ps) rfl HO.out (.string (s.extract fr s.size)) rfl rfl hsz wr.heap.size rfl rfl hpl ?_)
        intro v5 w5 ho5 hm5
        have hm5' : Mod [] w w5 := HM.out.trans' hm5 (fun x hx => Or.inr (HO.out.lt x (by simpa using hx)).1)
        have HM5 := Lib.hid hm5'
        rw [HEx.out] at ho5
        have ho6 : Sts w.heap.size w5 v5 (ps ++ [((nums s).drop fr).take (s.size - fr)]) := by
          unfold Sts
          have e1 : stV (ps ++ [((nums s).drop fr).take (s.size - fr)]) = stV ps ++ [Value.string (strOfNums (((nums s).drop fr).take (s.size - fr)))] := by simp [stV]
          have e2 : (ps ++ [((nums s).drop fr).take (s.size - fr)]).length = (stV ps).length + 1 := by simp [stV_len]
          rw [e1, e2]; exact ho5
        have HO6 := Lib.hid ho6
        obtain ⟨a5, c5, rfl, hob, _⟩ := owns_shape ho5
        clear ho5 hm5 hm5' ho6 hob
        go_wp2_with fail
        go_roundw
        case rel => exact ⟨s.size + 1, s.size + 1, _, by go_num, by go_num, HCut.out, HO6.out, HM5.out⟩
        case measure => simp [intOf]
    · have hdone := HSp.out.done (by rw [HL.out]; omega)
      have HD := Lib.hid hdone
      have hpl2 : ps.length ≤ s.size + 1 := by have := hdone.2; rw [HL.out] at this; omega
      clear hdone
      go_wp2_with fail
      go_ret
      refine ⟨_, rfl, ?_, HM.out.toBelow (Nat.le_refl _) (by simp), ?_⟩
      · rw [HD.out.1]; exact HSt.out
      · rw [HD.out.1, HL.out]; exact hpl2

theorem Sts.cell {B : Nat} {w : World} {g n cap : Nat} {ps : List (List Int)} (h : Sts B w (.slice (some ⟨g, 0, none⟩) n cap) ps) (hn : n = ps.length) (i : Nat) (hi : i < ps.length) : w.cell? ⟨g, i, none⟩ = some (.string (strOfNums (ps.getD i []))) := by
  subst hn
  have := World.ownsRow.cellAt h i (by omega)
  rw [this]
  simp [stV, List.getD, hi]
theorem Sts.shape {B : Nat} {w : World} {v : Value} {ps : List (List Int)} (h : Sts B w v ps) (hp : 0 < ps.length) : ∃ g cap, v = .slice (some ⟨g, 0, none⟩) ps.length cap := by
  rcases h.2 with ⟨_, h0⟩ | ⟨g, cap, cur, rfl, _⟩
  · omega
  · exact ⟨g, cap, rfl⟩
theorem split_pos (c : Int) (l : List Int) : 0 < (splitL c l).length := by
  cases h : splitL c l with
  | nil => exact absurd h (splitL_ne c l)
  | cons p ps => simp
/-- the parts of bytes are bytes, no longer than they -/
theorem split_part {c : Int} : ∀ {l : List Int}, Bytes l → ∀ p ∈ splitL c l, Bytes p ∧ p.length ≤ l.length
  | [], _, p, hp => by simp [splitL] at hp; subst hp; exact ⟨Bytes.nil, by simp⟩
  | x :: t, h, p, hp => by
    have ht : Bytes t := fun y hy => h y (List.mem_cons_of_mem _ hy)
    have ih := split_part (c := c) ht
    by_cases hx : x = c
    · rw [splitL, if_pos hx] at hp
      rcases List.mem_cons.1 hp with rfl | hp
      · exact ⟨Bytes.nil, by simp⟩
      · have := ih p hp; exact ⟨this.1, by simp; omega⟩
    · rw [splitL_cons_ne hx] at hp
      cases hs : splitL c t with
      | nil => exact absurd hs (splitL_ne c t)
      | cons q qs =>
        rw [hs] at hp ih
        rcases List.mem_cons.1 hp with rfl | hp
        · have := ih q (List.mem_cons_self ..)
          exact ⟨by intro y hy; simp at hy; rcases hy with rfl | hy; exact h _ (List.mem_cons_self ..); exact this.1 y hy, by simp; omega⟩
        · have := ih p (List.mem_cons_of_mem _ hp); exact ⟨this.1, by simp; omega⟩
theorem getD_mem {ps : List (List Int)} {i : Nat} (h : i < ps.length) : ps.getD i [] ∈ ps := by
  simp [List.getD, h]
/-- the first k parts are as B asks -/
def PaK (B : List Int → Bool) (ps : List (List Int)) (k : Nat) : Prop := ∀ i, i < k → B (ps.getD i []) = true
theorem PaK.step {B : List Int → Bool} {ps : List (List Int)} {k : Nat} (h : PaK B ps k) (hk : B (ps.getD k []) = true) : PaK B ps (k + 1) := fun i hi => by
  by_cases e : i = k
  · subst e; exact hk
  · exact h i (by omega)
theorem PaK.all {B : List Int → Bool} {ps : List (List Int)} (h : PaK B ps ps.length) : ps.all B = true := by
  rw [List.all_eq_true]
  intro p hp
  obtain ⟨i, hi, rfl⟩ := List.getElem_of_mem hp
  have := h i hi
  simpa [List.getD, hi] using this
theorem all_no {B : List Int → Bool} {ps : List (List Int)} {k : Nat} (hk : k < ps.length) (h : B (ps.getD k []) = false) : ps.all B = false := by
  rw [List.all_eq_false]
  exact ⟨_, getD_mem hk, by rw [h]; simp⟩

set_option maxHeartbeats 2000000 in
theorem rlabels_any (s : ByteArray) (w : World) (hs : s.size ≤ 100000) : Calls Tryz.prog 80 #[.string s] w (BoolP (labelsB (nums s)) w) := by
  have HL := Lib.hid (nums_length s)
  go_enter Tryz.func80, Tryz.ntmps80
  go_wp2_with fail
  refine (rsplit_any s 46 w hs).mono ?_
  rintro e w1 ⟨v, rfl, hst, hb, hlen⟩
  obtain ⟨g, cap, rfl⟩ := hst.shape (split_pos 46 (nums s))
  have HSt := Lib.hid hst
  have HB := Lib.hid hb
  have hlb : labelsB (nums s) = (splitL 46 (nums s)).all labB := rfl
  have hpart := split_part (c := 46) (nums_bytes s)
  rw [HL.out] at hlen hpart
  generalize hps : splitL 46 (nums s) = ps at *
  have HPart := Lib.hid hpart
  have HLb := Lib.hid hlb
  clear hst hb hlb hpart hps
  go_wp2_with fail
  go_loop [4] (fun i => ∃ k : Nat, i = .int .i64 k ∧ k ≤ ps.length ∧ PaK labB ps k) (fun i => (ps.length - intOf i).toNat)
  case atStart => exact ⟨0, rfl, by omega, fun i hi => by omega⟩
  case round =>
    obtain ⟨k, rfl, hk, hno⟩ := hrel
    have HN := Lib.hid hno
    clear hno
    by_cases hlt : k < ps.length
    · have hcell := HSt.out.cell rfl k hlt
      have hp := HPart.out _ (getD_mem hlt)
      have HCall := Lib.hid (rlabel_any (strOfNums (ps.getD k [])) w1 (by rw [strOfNums_size]; omega))
      rw [nums_strOfNums hp.1] at HCall
      generalize hq : labB (ps.getD k []) = q at HCall
      have HQ := Lib.hid hq
      generalize strOfNums (ps.getD k []) = t at *
      clear hq hp
      cases q
      · go_wp2_with ((go_at_call 89; refine HCall.out.mono ?_); rintro e w2 ⟨rfl, rfl⟩)
        go_ret
        exact BoolP.mk (by rw [HLb.out]; exact all_no hlt HQ.out) HB.out
      · go_wp2_with ((go_at_call 89; refine HCall.out.mono ?_); rintro e w2 ⟨rfl, rfl⟩)
        clear hcell
        go_round
        case rel => exact ⟨k + 1, by go_num, by omega, HN.out.step HQ.out⟩
        case measure => simp [intOf]; omega
    · have hke : k = ps.length := by omega
      have HAll := Lib.hid (PaK.all (by rw [← hke]; exact HN.out))
      clear hke
      go_wp2_with fail
      go_ret
      exact BoolP.mk (by rw [HLb.out]; exact HAll.out) HB.out

/-- the first k bytes are an atom's -/
def AtK (l : List Int) (k : Nat) : Prop := (l.take k).all atB = true
theorem AtK.step {l : List Int} {k : Nat} (h : AtK l k) (hk : k < l.length) (hb : atB (l.getD k 0) = true) : AtK l (k + 1) := by
  unfold AtK; rw [take_succ_at l k hk, List.all_append, h]; simp only [List.all_cons, List.all_nil, hb]; rfl
theorem atomB_no {l : List Int} {k : Nat} (hk : k < l.length) (hb : atB (l.getD k 0) = false) : atomB l = false := by
  unfold atomB
  have : l.all atB = false := by
    rw [List.all_eq_false]
    refine ⟨l[k], List.getElem_mem hk, ?_⟩
    have e : l.getD k 0 = l[k] := by simp [List.getD, hk]
    rw [← e, hb]; simp
  rw [this]; simp

end Go.Proofs.YtbhdlclaooohfaaGreatDoor.Ad

/- The reference: Domain, Good, lower. -/
namespace Go.Proofs.YtbhdlclaooohfaaGreatDoor.Ad
open Go.Shelf Go.ChangeShapes Go.WideShapes Go.ChangeAt Go.RowKit
set_option linter.unusedVariables false
set_option linter.unusedSimpArgs false

set_option maxHeartbeats 1000000 in
theorem rdomain_any (s : ByteArray) (w : World) (hs : s.size ≤ 100000) : Calls Tryz.prog 65 #[.string s] w (BoolP (domOK (nums s)) w) := by
  have HL := Lib.hid (nums_length s)
  go_enter Tryz.func65, Tryz.ntmps65
  go_wp2_with fail
  refine (rlabels_any s w hs).mono ?_
  rintro e w1 ⟨rfl, hb⟩
  have HB := Lib.hid hb
  clear hb
  generalize hq : labelsB (nums s) = q
  have HQ := Lib.hid hq
  clear hq
  cases q
  · go_wp2_with fail
    go_ret
    exact BoolP.mk (by unfold domOK; rw [HQ.out]; rfl) HB.out
  · have h64 : decide ((s.size : Int) ≤ 64) = decide ((nums s).length ≤ 64) := by rw [HL.out]; congr 1; apply propext; omega
    have H64 := Lib.hid h64
    clear h64
    go_wp2_with fail
    go_ret
    exact BoolP.mk (by unfold domOK; rw [HQ.out, ← H64.out]; rfl) HB.out

def PrK (l : List Int) (k : Nat) : Prop := (l.take k).all prB = true
theorem PrK.step {l : List Int} {k : Nat} (h : PrK l k) (hk : k < l.length) (hb : prB (l.getD k 0) = true) : PrK l (k + 1) := by
  unfold PrK; rw [take_succ_at l k hk, List.all_append, h]; simp only [List.all_cons, List.all_nil, hb]; rfl
theorem pr_no {l : List Int} {k : Nat} (hk : k < l.length) (hb : prB (l.getD k 0) = false) : l.all prB = false := by
  rw [List.all_eq_false]
  refine ⟨l[k], List.getElem_mem hk, ?_⟩
  have e : l.getD k 0 = l[k] := by simp [List.getD, hk]
  rw [← e, hb]; simp

set_option maxHeartbeats 4000000 in
theorem rgood_any (a d : ByteArray) (w : World) (ha : a.size ≤ 100000) (hd : d.size ≤ 100000) : Calls Tryz.prog 45 #[.agg (adCs a d)] w (BoolP (goodB (nums a) (nums d)) w) := by
  have hb0 : (w.alloc (.cells (adCs a d) 25)).heap[w.heap.size]? = some (.cells (adCs a d) 25 (0, 0)) := heap_alloc_new w _
  have hm0 : Mod [] w (w.alloc (.cells (adCs a d) 25)) := (Mod.refl [] w).alloc _
  have HN := Lib.hid hb0
  have HM := Lib.hid hm0
  have HL := Lib.hid (nums_length a)
  clear hb0 hm0
  go_enter Tryz.func45, Tryz.ntmps45
  go_wp2_with fail
  generalize w.alloc (.cells (adCs a d) 25) = w0 at *
  generalize hg : w.heap.size = g0 at *
  have HG := Lib.hid hg
  have q0 := blk_cell HN.out 0
  have q1 := blk_cell HN.out 1
  clear hg
  go_loop [3] (fun i => ∃ k : Nat, i = .int .i64 k ∧ k ≤ a.size ∧ PrK (nums a) k) (fun i => (a.size - intOf i).toNat)
  case atStart => exact ⟨0, rfl, by omega, by simp [PrK]⟩
  case round =>
    obtain ⟨k, rfl, hk, hno⟩ := hrel
    have HN2 := Lib.hid hno
    clear hno
    by_cases hlt : k < a.size
    · have hst := str_at a k hlt
      have HKl := Lib.hid (show k < (nums a).length by rw [HL.out]; exact hlt)
      generalize hb : ((a[k].toNat : Nat) : Int) = b at *
      have HB := Lib.hid hst
      clear hst
      have HAl := Lib.hid (rplain_any b w0)
      generalize hal : prB b = q at HAl
      have HQ := Lib.hid hal
      clear hal
      cases q
      · go_wp2_with ((go_at_call 64; refine HAl.out.mono ?_); rintro e w1 ⟨rfl, rfl⟩)
        go_ret
        refine BoolP.mk ?_ (HM.out.toBelow (by have := HG.out; omega) (by simp))
        unfold goodB; rw [pr_no HKl.out (by rw [← HB.out]; exact HQ.out)]; simp
      · go_wp2_with ((go_at_call 64; refine HAl.out.mono ?_); rintro e w1 ⟨rfl, rfl⟩)
        go_round
        case rel => exact ⟨k + 1, by go_num, by omega, HN2.out.step HKl.out (by rw [← HB.out]; exact HQ.out)⟩
        case measure => simp [intOf]; omega
    · have hall : (nums a).all prB = true := by
        have := HN2.out
        unfold PrK at this
        rwa [List.take_of_length_le (by rw [HL.out]; omega)] at this
      have HAll := Lib.hid hall
      clear hall
      by_cases h1 : 1 ≤ a.size
      · have h1' : (1 : Int) ≤ (a.size : Int) := by omega
        by_cases h64 : a.size ≤ 64
        · have h64' : (a.size : Int) ≤ 64 := by omega
          go_wp2_with fail
          refine (rdomain_any d w0 hd).mono ?_
          rintro e w4 ⟨rfl, hb4⟩
          have HB4 := Lib.hid ((HM.out.trans (Mod.ofBelow hb4)).toBelow (B := w.heap.size) (by have := HG.out; omega) (by simp))
          clear hb4
          go_wp2_with fail
          go_ret
          refine BoolP.mk ?_ HB4.out
          unfold goodB; rw [HAll.out, HL.out, decide_eq_true h1, decide_eq_true h64]; simp
        · have h64' : (64 : Int) < (a.size : Int) := by omega
          go_wp2_with fail
          go_ret
          refine BoolP.mk ?_ (HM.out.toBelow (by have := HG.out; omega) (by simp))
          unfold goodB; rw [HL.out, decide_eq_false h64]; simp
      · have h1' : (a.size : Int) < 1 := by omega
        go_wp2_with fail
        go_ret
        refine BoolP.mk ?_ (HM.out.toBelow (by have := HG.out; omega) (by simp))
        unfold goodB; rw [HL.out, decide_eq_false h1]; simp

theorem lowL_len' (l : List Int) : (lowL l).length = l.length := by simp [lowL]
theorem lowL_snoc (l : List Int) (k : Nat) (h : k < l.length) : lowL (l.take (k + 1)) = lowL (l.take k) ++ [lowC (l.getD k 0)] := by
  rw [take_succ_at l k h]; simp [lowL]

end Go.Proofs.YtbhdlclaooohfaaGreatDoor.Ad

