import Derived.Test.YthcgnnhfkejglaaGreatDoorAdG
/- The reader: things. -/
namespace Go.Proofs.YthcgnnhfkejglaaGreatDoor
open Go.Shelf Go.ChangeShapes Go.WideShapes Go.ChangeAt Go.RowKit
set_option linter.unusedVariables false
set_option linter.unusedSimpArgs false

theorem thL_quote (t : List Int) : thL (34 :: t) = some ([], 1) := rfl
theorem thL_esc (c : Int) (t : List Int) : thL (92 :: c :: t) = if prB c then (thL t).map fun x => (c :: x.1, x.2 + 2) else none := rfl
theorem thL_plain (c : Int) (t : List Int) (h1 : c ≠ 34) (h2 : c ≠ 92) : thL (c :: t) = if prB c then (thL t).map fun x => (c :: x.1, x.2 + 1) else none := by
  rw [thL]
  · exact h1
  · intro h; exact absurd h h2
  · intro d r h; exact absurd h h2
theorem drop_at {l : List Int} {j : Nat} (h : j < l.length) : l.drop j = l.getD j 0 :: l.drop (j + 1) := by
  rw [List.drop_eq_getElem_cons h]; simp [List.getD, h]
theorem getD_at {l : List Int} {j : Nat} {c : Int} (h : l[j]? = some c) : j < l.length ∧ l.getD j 0 = c := by
  obtain ⟨h1, h2⟩ := List.getElem?_eq_some_iff.1 h
  exact ⟨h1, by simp [List.getD, h1, h2]⟩
theorem th_end {l : List Int} {j : Nat} (h : (l[j]? == some 34) = true) : thL (l.drop j) = some ([], 1) := by
  obtain ⟨h1, h2⟩ := getD_at (by simpa using h)
  rw [drop_at h1, h2]; rfl
/-- where the byte that is told stands -/
def escJ (l : List Int) (j : Nat) : Nat := if (l[j]? == some 92) = true then j + 1 else j
theorem th_bad {l : List Int} {j : Nat} (h : (l[j]? == some 34) = false) (hm : meetsB prB l (escJ l j) = false) : thL (l.drop j) = none := by
  by_cases hj : j < l.length
  · rw [drop_at hj]
    have e : l[j]? = some (l.getD j 0) := by simp [List.getD, hj]
    rw [e] at h
    unfold escJ at hm
    rw [e] at hm
    by_cases h92 : l.getD j 0 = 92
    · rw [h92] at hm ⊢
      simp only [beq_self_eq_true, if_true] at hm
      by_cases hj1 : j + 1 < l.length
      · rw [drop_at hj1, thL_esc]
        rw [meetsB_lt hj1] at hm
        rw [hm]; rfl
      · have : l.drop (j + 1) = [] := by simp; omega
        rw [this]; rfl
    · have h92' : (some (l.getD j 0) == some 92) = false := by rw [beq_eq_false_iff_ne]; intro hh; exact h92 (Option.some.inj hh)
      rw [h92'] at hm
      simp only [Bool.false_eq_true, if_false] at hm
      rw [meetsB_lt hj] at hm
      rw [thL_plain _ _ (by simpa using h) h92, hm]; rfl
  · have : l.drop j = [] := by simp; omega
    rw [this]; rfl
theorem th_step {l : List Int} {j : Nat} (h : (l[j]? == some 34) = false) (hm : meetsB prB l (escJ l j) = true) : thL (l.drop j) = (thL (l.drop (escJ l j + 1))).map fun x => (l.getD (escJ l j) 0 :: x.1, x.2 + (escJ l j + 1 - j)) := by
  have hlt := (meetsB_true hm).1
  have hj : j < l.length := by unfold escJ at hlt; split at hlt <;> omega
  rw [drop_at hj]
  have e : l[j]? = some (l.getD j 0) := by simp [List.getD, hj]
  rw [e] at h
  unfold escJ at hm ⊢
  rw [e] at hm ⊢
  by_cases h92 : l.getD j 0 = 92
  · rw [h92] at hm ⊢
    simp only [beq_self_eq_true, if_true] at hm ⊢
    have hj1 := (meetsB_true hm).1
    rw [drop_at hj1, thL_esc]
    rw [meetsB_lt hj1] at hm
    rw [hm]
    have : j + 1 + 1 - j = 2 := by omega
    rw [this]; rfl
  · have h92' : (some (l.getD j 0) == some 92) = false := by rw [beq_eq_false_iff_ne]; intro hh; exact h92 (Option.some.inj hh)
    rw [h92'] at hm ⊢
    simp only [Bool.false_eq_true, if_false] at hm ⊢
    rw [meetsB_lt hj] at hm
    rw [thL_plain _ _ (by simpa using h) h92, hm]
    have : j + 1 - j = 1 := by omega
    rw [this]; rfl

/-- what things tell, if something -/
def thR (t : List Int) : Option (List Int × Nat) := (thL t).bind fun x => if x.1 = [] then none else some x

def ThingsP (rb : Nat) (s : ByteArray) (i : Nat) (g : Bool) (w : World) (e : Ending) (w' : World) : Prop :=
  ∃ ok T j, e = .returned (.tuple #[.string (strOfNums T), .bool ok]) ∧ RD w' rb s j g ∧ i ≤ j ∧ j ≤ s.size ∧ Bytes T ∧ T.length ≤ s.size ∧ (ok = true → thR ((nums s).drop i) = some (T, j - i)) ∧ (ok = false → thR ((nums s).drop i) = none) ∧ Mod [rb] w w'

/-- on the way through things: T was told so far, the reader stands at j -/
structure ThW (rb : Nat) (s : ByteArray) (i : Nat) (g : Bool) (w wr : World) (v : Value) (j : Nat) (T : List Int) : Prop where
  rd : RD wr rb s j g
  own : wr.ownsRow w.heap.size 5 1 v T.length (u8s T)
  le : i ≤ j
  js : j ≤ s.size
  len : T.length ≤ j - i
  by_ : Bytes T
  mod : Mod [rb] w wr
  eq : thL ((nums s).drop i) = (thL ((nums s).drop j)).map fun x => (T ++ x.1, x.2 + (j - i))
theorem info_u8 : (Tryz.prog.info? 5).map (fun i => (i.zero, i.size, i.bytes)) = some (some (.int .u8 0), 1, 1) := by kernel_rfl

set_option maxHeartbeats 2000000 in
theorem things_any (rb : Nat) (s : ByteArray) (i : Nat) (g : Bool) (w : World) (h : RD w rb s i g) (hs : s.size ≤ 100000) (ha : i ≤ s.size) :
    Calls Tryz.prog 125 #[.pointer (some ⟨rb, 0, none⟩)] w (ThingsP rb s i g w) := by
  have H := Lib.hid h
  have hlt := h.lt
  clear h
  go_enter Tryz.func125, Tryz.ntmps125
  go_wp2_with fail
  refine (printable_any _).mono ?_
  rintro e w1 ⟨vk, rfl, hk, hb⟩
  obtain ⟨f, caps, rfl⟩ := hk.shape
  have HK := Lib.hid hk
  have HB := Lib.hid hb
  have hz1 := hb.size
  have HR1 := Lib.hid (H.out.quiet (Mod.ofBelow hb))
  clear hk hb
  go_wp2_with fail
  go_loopg [4] (s.size - i) (fun gk v wr => ∃ j T, ThW rb s i g w1 wr v j T ∧ Hid (gk + j = s.size))
  case atStart => exact ⟨i, [], ⟨HR1.out, World.ownsRow_nil _ _ _ _, Nat.le_refl _, ha, by simp, Bytes.nil, Mod.refl _ _, by simp⟩, Lib.hid (by omega)⟩
  case round =>
    obtain ⟨j, T, ht, HG⟩ := hrel
    obtain ⟨av, cv, rfl, hob, _⟩ := owns_shape ht.own
    have HT := Lib.hid ht
    have hij := ht.le
    have hjs := ht.js
    have hsz := ht.mod.size
    have HP := Lib.hid (pass_any 34 rb s j g wr ht.rd hs hjs)
    clear ht hob
    go_wp2_with fail
    refine HP.out.mono ?_
    rintro e w2 ⟨rfl, hr2, hm2⟩
    generalize hq : ((nums s)[j]? == some 34) = q at *
    have HQ := Lib.hid hq
    have HR2 := Lib.hid hr2
    have HM2 := Lib.hid hm2
    clear hq hr2 hm2 HP
    cases q
    · have HR2' := Lib.hid (show RD w2 rb s j g by simpa using HR2.out)
      have HP2 := Lib.hid (pass_any 92 rb s j g w2 HR2'.out hs hjs)
      clear HR2
      go_wp2_with fail
      refine HP2.out.mono ?_
      rintro e w3 ⟨rfl, hr3, hm3⟩
      have hes : (if ((nums s)[j]? == some 92) = true then j + 1 else j) = escJ (nums s) j := rfl
      rw [hes] at hr3
      have hje : j ≤ escJ (nums s) j ∧ escJ (nums s) j ≤ s.size := by
        unfold escJ
        split
        · rename_i h
          have := (getD_at (by simpa using h)).1
          rw [nums_length] at this
          omega
        · omega
      have HM3 := Lib.hid (HM2.out.trans hm3)
      have HR3 := Lib.hid hr3
      have HTk := Lib.hid (take_any rb s (escJ (nums s) j) g w3 _ _ _ prB hr3 hs hje.2 ((HK.out.mod (HT.out.mod.trans HM3.out) (by intro k hk; simp at hk; subst hk; left; exact hlt))))
      generalize ((nums s)[j]? == some 92) = q2
      clear hr3 hm3 hes HP2
      go_wp2_with fail
      refine HTk.out.mono ?_
      rintro e w4 ⟨rfl, hr4, hm4⟩
      have HM4 := Lib.hid (HM3.out.trans hm4)
      generalize hq3 : meetsB prB (nums s) (escJ (nums s) j) = q3 at *
      have HQ3 := Lib.hid hq3
      have HR4 := Lib.hid hr4
      clear hq3 hr4 hm4 HTk
      cases q3
      · go_wp2_with fail
        go_ret2
        refine ⟨false, [], _, rfl, HR4.out, by simp; omega, by simp; omega, Bytes.nil, by simp, by simp, fun _ => ?_, (Mod.ofBelow HB.out).mono (by simp) |>.trans (HT.out.mod.trans HM4.out)⟩
        unfold thR
        rw [HT.out.eq, th_bad HQ.out HQ3.out]; rfl
      · have hjl : escJ (nums s) j < s.size := by have := (meetsB_true HQ3.out).1; rwa [nums_length] at this
        have HR4' := Lib.hid (show RD w4 rb s (escJ (nums s) j + 1) g by simpa using HR4.out)
        have hown : w4.ownsRow w1.heap.size 5 1 (.slice av T.length cv) T.length (u8s T) := HM4.out.owns HT.out.own (fun k hk hk' => by have := (HT.out.own.lt k hk).1; simp at hk'; omega)
        have HO := Lib.hid (show w4.ownsRow w1.heap.size 5 1 (.slice av T.length cv) (u8s T).length (u8s T) by simpa using hown)
        have hbd := (nums_bytes s).getD (escJ (nums s) j)
        have hlen : (u8s T).length ≤ 1000000000 := by simp; have := HT.out.len; omega
        have hsz4 : w1.heap.size ≤ w4.heap.size := (HT.out.mod.trans HM4.out).size
        clear hown HR4
        have HS := Lib.hid (th_step HQ.out HQ3.out)
        generalize hc : (nums s).getD (escJ (nums s) j) 0 = c at *
        have HC := Lib.hid hc
        clear hc
        generalize hej : escJ (nums s) j = ej at *
        clear hej
        simp only [if_true]
        go_wp2_with (at_builtin; refine wpList_app1 _ rfl _ _ 51 51 rfl 5 _ 1 Tryz.underlying51 Tryz.underlying51 info_u8 rfl (by decide) w1.heap.size w4 _ (u8s T) rfl HO.out (.int .u8 c) rfl rfl hsz4 w4.heap.size rfl rfl hlen ?_)
        intro v5 w5 ho5 hm5
        have HO5 := Lib.hid ho5
        have HM5 := Lib.hid hm5
        obtain ⟨a5, c5, rfl, _, _⟩ := owns_shape ho5
        clear ho5 hm5
        go_wp2_with fail
        go_roundg (gk - (ej + 1 - j))
        case measure => have := HG.out; omega
        case rel =>
          have hown4 : ∀ k, (Value.slice av T.length cv).ownBlock = some k → w1.heap.size ≤ k := fun k hk => (HO.out.lt k hk).1
          have hlt1 := HR1.out.lt
          have hm4 := HT.out.mod.trans HM4.out
          have hm5 : Mod [rb] w1 w5 := hm4.trans' HM5.out (fun x hx => Or.inr (hown4 x (by simpa using hx)))
          have hr5 : RD w5 rb s (ej + 1) g := HR4'.out.mod HM5.out (fun hx => by have := hown4 rb (by simpa using hx); omega)
          refine ⟨ej + 1, T ++ [c], ⟨hr5, by simpa [u8s_append] using HO5.out, by omega, by omega, by simp; have := HT.out.len; omega, HT.out.by_.append (by intro x hx; simp at hx; subst hx; exact hbd), hm5, ?_⟩, Lib.hid (by have := HG.out; omega)⟩
          rw [HT.out.eq, HS.out, Option.map_map]
          congr 1
          funext x
          simp
          omega
    · have hown : w2.ownsRow w1.heap.size 5 1 (.slice av T.length cv) T.length (u8s T) := HM2.out.owns HT.out.own (fun k hk hk' => by have := (HT.out.own.lt k hk).1; simp at hk'; omega)
      have F := run_str (P := Tryz.prog) (Cells8.ofOwns HT.out.by_ hown) 51 9 5 T.length cv Tryz.underlying51 Tryz.underlying5 Tryz.underlying9 rfl
      clear hown
      go_wp2_with fail
      go_ret2
      clear F
      have hj1 : j + 1 ≤ s.size := by have := (getD_at (by simpa using HQ.out)).1; rw [nums_length] at this; omega
      have he := HT.out.eq
      rw [th_end HQ.out] at he
      have hlen := HT.out.len
      refine ⟨decide (0 < T.length), T, j + 1, rfl, by simpa using HR2.out, by omega, hj1, HT.out.by_, by omega, fun hd => ?_, fun hd => ?_, (Mod.ofBelow HB.out).mono (by simp) |>.trans (HT.out.mod.trans HM2.out)⟩
      · have h0 : 0 < T.length := by simpa using hd
        have hne : T ≠ [] := by intro e; simp [e] at h0
        unfold thR
        rw [he]
        simp [hne]
        omega
      · have h0 : ¬ 0 < T.length := by simpa using hd
        have hne : T = [] := List.eq_nil_of_length_eq_zero (by omega)
        unfold thR
        rw [he]
        simp [hne]
end Go.Proofs.YthcgnnhfkejglaaGreatDoor

