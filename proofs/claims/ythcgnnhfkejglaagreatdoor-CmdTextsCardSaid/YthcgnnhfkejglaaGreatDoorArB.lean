import Derived.Test.YthcgnnhfkejglaaGreatDoorArA
/- The reference: split, labels, atoms, Domain. -/
namespace Go.Proofs.YthcgnnhfkejglaaGreatDoor
open Go.Shelf Go.ChangeShapes Go.WideShapes Go.ChangeAt Go.RowKit
set_option linter.unusedVariables false
set_option linter.unusedSimpArgs false

theorem nums_nil' {s : ByteArray} : s.toList = [] ↔ nums s = [] := by
  rw [Lib.toList_data]; unfold nums; simp
def joinF (pre : List Int) (L : List (List Int)) : List (List Int) := match L with | [] => [pre] | p :: ps => (pre ++ p) :: ps
theorem joinF_nil (L : List (List Int)) (h : L ≠ []) : joinF [] L = L := by
  cases L with
  | nil => exact absurd rfl h
  | cons p ps => rfl
theorem splitL_cons_ne {c x : Int} (h : ¬ x = c) (t : List Int) : splitL c (x :: t) = joinF [x] (splitL c t) := by
  rw [splitL, if_neg h]
  cases splitL c t <;> rfl
theorem splitL_cons_eq {c : Int} (t : List Int) : splitL c (c :: t) = [] :: splitL c t := by rw [splitL, if_pos rfl]
theorem joinF_joinF (a b : List Int) (L : List (List Int)) : joinF a (joinF b L) = joinF (a ++ b) L := by
  cases L <;> simp [joinF]

/-- the parts so far, the part that is under way, what is to come -/
def SpI (c : Int) (l : List Int) (fr i : Nat) (ps : List (List Int)) : Prop :=
  fr ≤ i ∧ ps.length ≤ i ∧ ((i ≤ l.length ∧ splitL c l = ps ++ joinF ((l.drop fr).take (i - fr)) (splitL c (l.drop i))) ∨ (i = l.length + 1 ∧ splitL c l = ps))
theorem SpI.start (c : Int) (l : List Int) : SpI c l 0 0 [] := ⟨Nat.le_refl _, Nat.le_refl _, .inl ⟨Nat.zero_le _, by simp [joinF_nil _ (splitL_ne c l)]⟩⟩
theorem take_more {l : List Int} {fr i : Nat} (h1 : fr ≤ i) (h2 : i < l.length) : (l.drop fr).take (i + 1 - fr) = (l.drop fr).take (i - fr) ++ [l.getD i 0] := by
  have e : i + 1 - fr = (i - fr) + 1 := by omega
  rw [e, take_succ_at _ _ (by simp; omega)]
  congr 2
  simp only [List.getD, List.getElem?_drop]
  congr 2
  omega
theorem SpI.same {c : Int} {l : List Int} {fr i : Nat} {ps : List (List Int)} (h : SpI c l fr i ps) (hi : i < l.length) (hx : ¬ l.getD i 0 = c) : SpI c l fr (i + 1) ps := by
  obtain ⟨h1, h2, h3⟩ := h
  refine ⟨by omega, by omega, .inl ⟨by omega, ?_⟩⟩
  rcases h3 with ⟨_, h3⟩ | ⟨h3, _⟩
  · rw [h3, drop_at hi, splitL_cons_ne hx, joinF_joinF, take_more h1 hi]
  · omega
theorem SpI.cut {c : Int} {l : List Int} {fr i : Nat} {ps : List (List Int)} (h : SpI c l fr i ps) (hi : i < l.length) (hx : l.getD i 0 = c) : SpI c l (i + 1) (i + 1) (ps ++ [(l.drop fr).take (i - fr)]) := by
  obtain ⟨h1, h2, h3⟩ := h
  refine ⟨Nat.le_refl _, by simp; omega, .inl ⟨by omega, ?_⟩⟩
  rcases h3 with ⟨_, h3⟩ | ⟨h3, _⟩
  · rw [h3, drop_at hi, hx, splitL_cons_eq]
    simp [joinF, joinF_nil _ (splitL_ne c _)]
    cases hs : splitL c (l.drop (i + 1)) with
    | nil => exact absurd hs (splitL_ne c _)
    | cons p ps => rfl
  · omega
theorem SpI.fin {c : Int} {l : List Int} {fr : Nat} {ps : List (List Int)} (h : SpI c l fr l.length ps) : SpI c l (l.length + 1) (l.length + 1) (ps ++ [(l.drop fr).take (l.length - fr)]) := by
  obtain ⟨h1, h2, h3⟩ := h
  refine ⟨Nat.le_refl _, by simp; omega, .inr ⟨rfl, ?_⟩⟩
  rcases h3 with ⟨_, h3⟩ | ⟨h3, _⟩
  · rw [h3, List.drop_eq_nil_of_le (Nat.le_refl _)]; simp [splitL, joinF]
  · omega
theorem SpI.done {c : Int} {l : List Int} {fr i : Nat} {ps : List (List Int)} (h : SpI c l fr i ps) (hi : l.length < i) : splitL c l = ps ∧ i = l.length + 1 := by
  rcases h.2.2 with ⟨h3, _⟩ | ⟨h3, h4⟩
  · omega
  · exact ⟨h4, h3⟩

/-- texts as cells -/
def stV (ps : List (List Int)) : List Value := ps.map fun p => Value.string (strOfNums p)
theorem stV_len (ps : List (List Int)) : (stV ps).length = ps.length := by simp [stV]
theorem info_str : (Tryz.prog.info? 9).map (fun i => (i.zero, i.size, i.bytes)) = some (some (.string ⟨#[]⟩), 1, 16) := by kernel_rfl
/-- a slice of the call's own that holds texts -/
def Sts (B : Nat) (w : World) (v : Value) (ps : List (List Int)) : Prop := w.ownsRow B 9 1 v ps.length (stV ps)
def SplitP (c : Int) (l : List Int) (w : World) (e : Ending) (w' : World) : Prop := ∃ v, e = .returned v ∧ Sts w.heap.size w' v (splitL c l) ∧ Below w.heap.size w w' ∧ (splitL c l).length ≤ l.length + 1

set_option maxHeartbeats 4000000 in
theorem rsplit_any (s : ByteArray) (c : Int) (w : World) (hs : s.size ≤ 100000) : Calls Tryz.prog 53 #[.string s, .int .u8 c] w (SplitP c (nums s) w) := by
  have HL := Lib.hid (nums_length s)
  go_enter Tryz.func53, Tryz.ntmps53
  go_wp2_with fail
  go_loopw [5, 6, 7] (fun v f x wr => ∃ (fr i : Nat) (ps : List (List Int)), f = .int .i64 fr ∧ x = .int .i64 i ∧ SpI c (nums s) fr i ps ∧ Sts w.heap.size wr v ps ∧ Mod [] w wr) (fun _ _ x _ => (s.size + 1 - intOf x).toNat)
  case atStart => exact ⟨0, 0, [], rfl, rfl, SpI.start _ _, World.ownsRow_nil _ _ _ _, Mod.refl _ _⟩
  case round =>
    obtain ⟨fr, i, ps, rfl, rfl, hsp, hst, hm⟩ := hrel
    have HSp := Lib.hid hsp
    have HSt := Lib.hid hst
    have HM := Lib.hid hm
    have h1 := hsp.1
    have h2 := hsp.2.1
    have hsz := hm.size
    obtain ⟨av, cv, rfl, hob, _⟩ := owns_shape hst
    have hown : wr.ownsRow w.heap.size 9 1 (.slice av ps.length cv) (stV ps).length (stV ps) := by rw [stV_len]; exact hst
    have HO := Lib.hid hown
    clear hsp hst hm hob hown
    by_cases hle : i ≤ s.size
    · have hpl : (stV ps).length ≤ 1000000000 := by rw [stV_len]; omega
      by_cases hlt : i < s.size
      · have hil : i < (nums s).length := by rw [HL.out]; exact hlt
        have HIl := Lib.hid hil
        have hne : ((i : Int) == (s.size : Int)) = false := by simp; omega
        have hbt := str_at s i hlt
        have HBt := Lib.hid hbt
        clear hil hbt
        by_cases hbc : ((s[i].toNat : Nat) : Int) = c
        · have hbe : (((s[i].toNat : Nat) : Int) == c) = true := by simp [hbc]
          have HCut := Lib.hid (HSp.out.cut HIl.out (HBt.out.symm.trans hbc))
          have hI : (fr : Int) ≤ (i : Int) := by omega
          have hI2 : (i : Int) ≤ (s.size : Int) := by omega
          have hex := extract_nums s fr i
          have HEx := Lib.hid hex
          clear hbc hex
          go_wp2_with (at_builtin; refine wpList_app1 _ rfl _ _ 50 50 rfl 9 _ 16 Tryz.underlying50 Tryz.underlying50 info_str rfl (by decide) w.heap.size wr _ (stV ps) rfl HO.out (.string (s.extract fr i)) rfl rfl hsz wr.heap.size rfl rfl hpl ?_)
          intro v5 w5 ho5 hm5
          have hm5' : Mod [] w w5 := HM.out.trans' hm5 (fun x hx => Or.inr (HO.out.lt x (by simpa using hx)).1)
          have HM5 := Lib.hid hm5'
          rw [HEx.out] at ho5
          have ho6 : Sts w.heap.size w5 v5 (ps ++ [((nums s).drop fr).take (i - fr)]) := by
            unfold Sts
            have e1 : stV (ps ++ [((nums s).drop fr).take (i - fr)]) = stV ps ++ [Value.string (strOfNums (((nums s).drop fr).take (i - fr)))] := by simp [stV]
            have e2 : (ps ++ [((nums s).drop fr).take (i - fr)]).length = (stV ps).length + 1 := by simp [stV_len]
            rw [e1, e2]; exact ho5
          have HO6 := Lib.hid ho6
          obtain ⟨a5, c5, rfl, hob, _⟩ := owns_shape ho5
          clear ho5 hm5 hm5' ho6 hob
          go_wp2_with fail
          go_roundw
          case rel => exact ⟨i + 1, i + 1, _, by go_num, by go_num, HCut.out, HO6.out, HM5.out⟩
          case measure => simp [intOf]; omega
        · have hbe : (((s[i].toNat : Nat) : Int) == c) = false := by simp [hbc]
          have HSame := Lib.hid (HSp.out.same HIl.out (by rw [← HBt.out]; exact hbc))
          clear hbc
          go_wp2_with fail
          go_roundw
          case rel => exact ⟨fr, i + 1, ps, rfl, by go_num, HSame.out, HSt.out, HM.out⟩
          case measure => simp [intOf]; omega
      · obtain rfl : i = s.size := by omega
        have he : (((s.size : Nat) : Int) == (s.size : Int)) = true := by simp
        have hI : (fr : Int) ≤ (s.size : Int) := by omega
        have HCut : Hid (SpI c (nums s) (s.size + 1) (s.size + 1) (ps ++ [((nums s).drop fr).take (s.size - fr)])) := Lib.hid (by
          have := HSp.out
          rw [← HL.out] at this ⊢
          exact this.fin)
        have hex := extract_nums s fr s.size
        have HEx := Lib.hid hex
        clear hex
        go_wp2_with (at_builtin; refine wpList_app1 _ rfl _ _ 50 50 rfl 9 _ 16 Tryz.underlying50 Tryz.underlying50 info_str rfl (by decide) w.heap.size wr _ (stV ps) rfl HO.out (.string (s.extract fr s.size)) rfl rfl hsz wr.heap.size rfl rfl hpl ?_)
        intro v5 w5 ho5 hm5
        have hm5' : Mod [] w w5 := HM.out.trans' hm5 (fun x hx => Or.inr (HO.out.lt x (by simpa using hx)).1)
        have HM5 := Lib.hid hm5'
        rw [HEx.out] at ho5
        have ho6 : Sts w.heap.size w5 v5 (ps ++ [((nums s).drop fr).take (s.size - fr)]) := by
          unfold Sts
          have e1 : stV (ps ++ [((nums s).drop fr).take (s.size - fr)]) = stV ps ++ [Value.string (strOfNums (((nums s).drop fr).take (s.size - fr)))] := by simp [stV]
          have e2 : (ps ++ [((nums s).drop fr).take (s.size - fr)]).length = (stV ps).length + 1 := by simp [stV_len]
          rw [e1, e2]; exact ho5
        have HO6 := Lib.hid ho6
        obtain ⟨a5, c5, rfl, hob, _⟩ := owns_shape ho5
        clear ho5 hm5 hm5' ho6 hob
        go_wp2_with fail
        go_roundw
        case rel => exact ⟨s.size + 1, s.size + 1, _, by go_num, by go_num, HCut.out, HO6.out, HM5.out⟩
        case measure => simp [intOf]
    · have hdone := HSp.out.done (by rw [HL.out]; omega)
      have HD := Lib.hid hdone
      have hpl2 : ps.length ≤ s.size + 1 := by have := hdone.2; rw [HL.out] at this; omega
      clear hdone
      go_wp2_with fail
      go_ret
      refine ⟨_, rfl, ?_, HM.out.toBelow (Nat.le_refl _) (by simp), ?_⟩
      · rw [HD.out.1]; exact HSt.out
      · rw [HD.out.1, HL.out]; exact hpl2

theorem Sts.cell {B : Nat} {w : World} {g n cap : Nat} {ps : List (List Int)} (h : Sts B w (.slice (some ⟨g, 0, none⟩) n cap) ps) (hn : n = ps.length) (i : Nat) (hi : i < ps.length) : w.cell? ⟨g, i, none⟩ = some (.string (strOfNums (ps.getD i []))) := by
  subst hn
  have := World.ownsRow.cellAt h i (by omega)
  rw [this]
  simp [stV, List.getD, hi]
theorem Sts.shape {B : Nat} {w : World} {v : Value} {ps : List (List Int)} (h : Sts B w v ps) (hp : 0 < ps.length) : ∃ g cap, v = .slice (some ⟨g, 0, none⟩) ps.length cap := by
  rcases h.2 with ⟨_, h0⟩ | ⟨g, cap, cur, rfl, _⟩
  · omega
  · exact ⟨g, cap, rfl⟩
theorem split_pos (c : Int) (l : List Int) : 0 < (splitL c l).length := by
  cases h : splitL c l with
  | nil => exact absurd h (splitL_ne c l)
  | cons p ps => simp
/-- the parts of bytes are bytes, no longer than they -/
theorem split_part {c : Int} : ∀ {l : List Int}, Bytes l → ∀ p ∈ splitL c l, Bytes p ∧ p.length ≤ l.length
  | [], _, p, hp => by simp [splitL] at hp; subst hp; exact ⟨Bytes.nil, by simp⟩
  | x :: t, h, p, hp => by
    have ht : Bytes t := fun y hy => h y (List.mem_cons_of_mem _ hy)
    have ih := split_part (c := c) ht
    by_cases hx : x = c
    · rw [splitL, if_pos hx] at hp
      rcases List.mem_cons.1 hp with rfl | hp
      · exact ⟨Bytes.nil, by simp⟩
      · have := ih p hp; exact ⟨this.1, by simp; omega⟩
    · rw [splitL_cons_ne hx] at hp
      cases hs : splitL c t with
      | nil => exact absurd hs (splitL_ne c t)
      | cons q qs =>
        rw [hs] at hp ih
        rcases List.mem_cons.1 hp with rfl | hp
        · have := ih q (List.mem_cons_self ..)
          exact ⟨by intro y hy; simp at hy; rcases hy with rfl | hy; exact h _ (List.mem_cons_self ..); exact this.1 y hy, by simp; omega⟩
        · have := ih p (List.mem_cons_of_mem _ hp); exact ⟨this.1, by simp; omega⟩
theorem getD_mem {ps : List (List Int)} {i : Nat} (h : i < ps.length) : ps.getD i [] ∈ ps := by
  simp [List.getD, h]
/-- the first k parts are as B asks -/
def PaK (B : List Int → Bool) (ps : List (List Int)) (k : Nat) : Prop := ∀ i, i < k → B (ps.getD i []) = true
theorem PaK.step {B : List Int → Bool} {ps : List (List Int)} {k : Nat} (h : PaK B ps k) (hk : B (ps.getD k []) = true) : PaK B ps (k + 1) := fun i hi => by
  by_cases e : i = k
  · subst e; exact hk
  · exact h i (by omega)
theorem PaK.all {B : List Int → Bool} {ps : List (List Int)} (h : PaK B ps ps.length) : ps.all B = true := by
  rw [List.all_eq_true]
  intro p hp
  obtain ⟨i, hi, rfl⟩ := List.getElem_of_mem hp
  have := h i hi
  simpa [List.getD, hi] using this
theorem all_no {B : List Int → Bool} {ps : List (List Int)} {k : Nat} (hk : k < ps.length) (h : B (ps.getD k []) = false) : ps.all B = false := by
  rw [List.all_eq_false]
  exact ⟨_, getD_mem hk, by rw [h]; simp⟩

set_option maxHeartbeats 2000000 in
theorem rlabels_any (s : ByteArray) (w : World) (hs : s.size ≤ 100000) : Calls Tryz.prog 39 #[.string s] w (BoolP (labelsB (nums s)) w) := by
  have HL := Lib.hid (nums_length s)
  go_enter Tryz.func39, Tryz.ntmps39
  go_wp2_with fail
  refine (rsplit_any s 46 w hs).mono ?_
  rintro e w1 ⟨v, rfl, hst, hb, hlen⟩
  obtain ⟨g, cap, rfl⟩ := hst.shape (split_pos 46 (nums s))
  have HSt := Lib.hid hst
  have HB := Lib.hid hb
  have hlb : labelsB (nums s) = (splitL 46 (nums s)).all labB := rfl
  have hpart := split_part (c := 46) (nums_bytes s)
  rw [HL.out] at hlen hpart
  generalize hps : splitL 46 (nums s) = ps at *
  have HPart := Lib.hid hpart
  have HLb := Lib.hid hlb
  clear hst hb hlb hpart hps
  go_wp2_with fail
  go_loop [4] (fun i => ∃ k : Nat, i = .int .i64 k ∧ k ≤ ps.length ∧ PaK labB ps k) (fun i => (ps.length - intOf i).toNat)
  case atStart => exact ⟨0, rfl, by omega, fun i hi => by omega⟩
  case round =>
    obtain ⟨k, rfl, hk, hno⟩ := hrel
    have HN := Lib.hid hno
    clear hno
    by_cases hlt : k < ps.length
    · have hcell := HSt.out.cell rfl k hlt
      have hp := HPart.out _ (getD_mem hlt)
      have HCall := Lib.hid (rlabel_any (strOfNums (ps.getD k [])) w1 (by rw [strOfNums_size]; omega))
      rw [nums_strOfNums hp.1] at HCall
      generalize hq : labB (ps.getD k []) = q at HCall
      have HQ := Lib.hid hq
      generalize strOfNums (ps.getD k []) = t at *
      clear hq hp
      cases q
      · go_wp2_with ((go_at_call 55; refine HCall.out.mono ?_); rintro e w2 ⟨rfl, rfl⟩)
        go_ret
        exact BoolP.mk (by rw [HLb.out]; exact all_no hlt HQ.out) HB.out
      · go_wp2_with ((go_at_call 55; refine HCall.out.mono ?_); rintro e w2 ⟨rfl, rfl⟩)
        clear hcell
        go_round
        case rel => exact ⟨k + 1, by go_num, by omega, HN.out.step HQ.out⟩
        case measure => simp [intOf]; omega
    · have hke : k = ps.length := by omega
      have HAll := Lib.hid (PaK.all (by rw [← hke]; exact HN.out))
      clear hke
      go_wp2_with fail
      go_ret
      exact BoolP.mk (by rw [HLb.out]; exact HAll.out) HB.out

/-- the first k bytes are an atom's -/
def AtK (l : List Int) (k : Nat) : Prop := (l.take k).all atB = true
theorem AtK.step {l : List Int} {k : Nat} (h : AtK l k) (hk : k < l.length) (hb : atB (l.getD k 0) = true) : AtK l (k + 1) := by
  unfold AtK; rw [take_succ_at l k hk, List.all_append, h]; simp only [List.all_cons, List.all_nil, hb]; rfl
theorem atomB_no {l : List Int} {k : Nat} (hk : k < l.length) (hb : atB (l.getD k 0) = false) : atomB l = false := by
  unfold atomB
  have : l.all atB = false := by
    rw [List.all_eq_false]
    refine ⟨l[k], List.getElem_mem hk, ?_⟩
    have e : l.getD k 0 = l[k] := by simp [List.getD, hk]
    rw [← e, hb]; simp
  rw [this]; simp

set_option maxHeartbeats 4000000 in
theorem ratoms_any (s : ByteArray) (w : World) (hs : s.size ≤ 100000) : Calls Tryz.prog 37 #[.string s] w (BoolP (atomsB (nums s)) w) := by
  have HL := Lib.hid (nums_length s)
  go_enter Tryz.func37, Tryz.ntmps37
  go_wp2_with fail
  refine (rsplit_any s 46 w hs).mono ?_
  rintro e w1 ⟨v, rfl, hst, hb, hlen⟩
  obtain ⟨g, cap, rfl⟩ := hst.shape (split_pos 46 (nums s))
  have HSt := Lib.hid hst
  have HB := Lib.hid hb
  have hlb : atomsB (nums s) = (splitL 46 (nums s)).all atomB := rfl
  have hpart := split_part (c := 46) (nums_bytes s)
  rw [HL.out] at hlen hpart
  generalize hps : splitL 46 (nums s) = ps at *
  have HPart := Lib.hid hpart
  have HLb := Lib.hid hlb
  clear hst hb hlb hpart hps
  go_wp2_with fail
  go_loop [4] (fun i => ∃ k : Nat, i = .int .i64 k ∧ k ≤ ps.length ∧ PaK atomB ps k) (fun i => (ps.length - intOf i).toNat)
  case atStart => exact ⟨0, rfl, by omega, fun i hi => by omega⟩
  case round =>
    obtain ⟨k, rfl, hk, hno⟩ := hrel
    have HN := Lib.hid hno
    clear hno
    by_cases hlt : k < ps.length
    · have hcell := HSt.out.cell rfl k hlt
      have hp := HPart.out _ (getD_mem hlt)
      have HPb := Lib.hid hp.1
      have hnum := nums_strOfNums hp.1
      have hsz := strOfNums_size (ps.getD k [])
      have hpl := hp.2
      generalize hpp : ps.getD k [] = p at *
      have HPp := Lib.hid hpp
      have HNum := Lib.hid hnum
      generalize htt : strOfNums p = t at *
      have HSz := Lib.hid hsz
      have ht1 : t.size ≤ 100000 := by omega
      clear hp hnum hpl hpp htt hsz
      go_wp2_with fail
      go_loop [5] (fun i => ∃ m : Nat, i = .int .i64 m ∧ m ≤ t.size ∧ AtK p m) (fun i => (t.size - intOf i).toNat)
      case atStart => exact ⟨0, rfl, by omega, by simp [AtK]⟩
      case round =>
        obtain ⟨m, rfl, hm, hno2⟩ := hrel
        have HN2 := Lib.hid hno2
        clear hno2
        by_cases hlt2 : m < t.size
        · have hst2 := str_at t m hlt2
          rw [HNum.out] at hst2
          have HIl := Lib.hid (show m < p.length by have := HSz.out; omega)
          generalize hbb : ((t[m].toNat : Nat) : Int) = b at *
          have HBt := Lib.hid hst2
          clear hst2
          have HA := Lib.hid (ratom_any b w1)
          generalize hq : atB b = q at HA
          have HQ := Lib.hid hq
          clear hq
          cases q
          · go_wp2_with ((go_at_call 54; refine HA.out.mono ?_); rintro e w2 ⟨rfl, rfl⟩)
            go_ret
            exact BoolP.mk (by rw [HLb.out]; exact all_no hlt (by rw [HPp.out]; exact atomB_no HIl.out (by rw [← HBt.out]; exact HQ.out))) HB.out
          · go_wp2_with ((go_at_call 54; refine HA.out.mono ?_); rintro e w2 ⟨rfl, rfl⟩)
            go_round
            case rel => exact ⟨m + 1, by go_num, by omega, HN2.out.step HIl.out (by rw [← HBt.out]; exact HQ.out)⟩
            case measure => simp [intOf]; omega
        · have hfin : p.all atB = true := by
            have := HN2.out
            unfold AtK at this
            rwa [List.take_of_length_le (by have := HSz.out; omega)] at this
          have HF := Lib.hid hfin
          clear hfin
          by_cases he : t.toList = []
          · have hpe : p = [] := by rw [← HNum.out]; exact nums_nil'.1 he
            have HPe := Lib.hid hpe
            clear hpe
            go_wp2_with fail
            go_ret
            exact BoolP.mk (by rw [HLb.out]; exact all_no hlt (by rw [HPp.out, HPe.out]; rfl)) HB.out
          · have hpe : p.isEmpty = false := by
              rw [List.isEmpty_eq_false_iff]
              intro h; exact he (nums_nil'.2 (by rw [HNum.out]; exact h))
            have HPe := Lib.hid hpe
            have hei : t.toList.isEmpty = false := by rw [List.isEmpty_eq_false_iff]; exact he
            clear hpe
            go_wp2_with fail
            go_round
            case rel => exact ⟨k + 1, by go_num, by omega, HN.out.step (by rw [HPp.out]; unfold atomB; rw [HF.out, HPe.out]; rfl)⟩
            case measure => simp [intOf]; omega
    · have hke : k = ps.length := by omega
      have HAll := Lib.hid (PaK.all (by rw [← hke]; exact HN.out))
      clear hke
      go_wp2_with fail
      go_ret
      exact BoolP.mk (by rw [HLb.out]; exact HAll.out) HB.out
end Go.Proofs.YthcgnnhfkejglaaGreatDoor

