import Derived.Test.YthcgnnhfkejglaaGreatDoorAdA
/- Kinds of bytes: either, alphanumeric, inAtom, inLabel, printable. -/
namespace Go.Proofs.YthcgnnhfkejglaaGreatDoor
open Go.Shelf Go.ChangeShapes Go.WideShapes Go.ChangeAt Go.RowKit
set_option linter.unusedVariables false
set_option linter.unusedSimpArgs false

theorem Kds.support {lo hi : Nat} {w : World} : ∀ {vs : List Value} {ps : List (Int → Bool)}, Kds lo hi w vs ps → ∃ S, Stands S w ∧ Within lo hi S ∧ ∀ w', Stands S w' → Kds lo hi w' vs ps
  | [], ps, h => ⟨[], fun x hx => (by simp at hx), fun x hx => (by simp at hx), fun w' _ => ⟨h.1, fun i hi => (by simp at hi)⟩⟩
  | v :: vs, [], h => absurd h.1 (by simp)
  | v :: vs, p :: ps, h => by
    obtain ⟨f, caps, S0, h1, he, h2, h3, h4⟩ := h.2 0 (by simp)
    obtain ⟨S, k1, k2, k3⟩ := Kds.support (vs := vs) (ps := ps) ⟨by simpa using h.1, fun i hi' => by simpa using h.2 (i + 1) (by simpa using hi')⟩
    refine ⟨S0 ++ S, Stands.append.2 ⟨h2, k1⟩, h3.append k2, fun w' hw => ?_⟩
    obtain ⟨hw1, hw2⟩ := Stands.append.1 hw
    have hk := k3 w' hw2
    refine ⟨h.1, fun i hi' => ?_⟩
    cases i with
    | zero => exact ⟨f, caps, S0, h1, he, hw1, h3, h4⟩
    | succ i => simpa using hk.2 i (by simpa using hi')
theorem Kds.nil (lo hi : Nat) (w : World) : Kds lo hi w [] [] := ⟨rfl, fun i h => by simp at h⟩
theorem Kds.cons {lo hi : Nat} {w : World} {v : Value} {p : Int → Bool} {vs : List Value} {ps : List (Int → Bool)} (h : Kd lo hi w v p) (k : Kds lo hi w vs ps) : Kds lo hi w (v :: vs) (p :: ps) :=
  ⟨by simp [k.1], fun i hi' => by
    cases i with
    | zero => exact h
    | succ i => simpa using k.2 i (by simpa using hi')⟩
theorem Kd.shape {lo hi : Nat} {w : World} {v : Value} {p : Int → Bool} (h : Kd lo hi w v p) : ∃ f caps, v = .func (.func f) #[] caps := by
  obtain ⟨f, caps, S, h1, _⟩ := h
  exact ⟨f, caps, h1⟩

def EitherP (lo : Nat) (p : Int → Bool) (w : World) (e : Ending) (w' : World) : Prop := ∃ v, e = .returned v ∧ Kd lo w'.heap.size w' v p ∧ Below w.heap.size w w'

set_option maxHeartbeats 400000 in
theorem either_any (lo : Nat) (vs : List Value) (ps : List (Int → Bool)) (b2 n : Nat) (w : World) (hn : n = vs.length) (hl : vs.length ≤ 1000) (hlo : lo ≤ b2) (h2 : w.heap[b2]? = some (.cells vs.toArray 83 (0, 0))) (hk : Kds lo w.heap.size w vs ps) :
    Calls Tryz.prog 116 #[.slice (some ⟨b2, 0, none⟩) n n] w (EitherP lo (anyB ps) w) := by
  subst hn
  have hmf : ∀ (fn : Fn) (first cp : Array Value) (w : World), (Instr.makeFunc fn first cp).run Tryz.prog w = .ok (.func fn first cp) w := fun _ _ _ _ => rfl
  have H2 := Lib.hid h2
  have HK := Lib.hid hk
  clear h2 hk
  go_enter Tryz.func116, Tryz.ntmps116
  go_wp2_with fail
  go_ret
  obtain ⟨S, hS, hW, hS'⟩ := HK.out.support
  have hb2 := blk_lt H2.out
  have hn1 := heap_alloc_new w (.cells #[.slice (some ⟨b2, 0, none⟩) vs.length vs.length] 124)
  have hm : Mod [] w (w.alloc (.cells #[.slice (some ⟨b2, 0, none⟩) vs.length vs.length] 124)) := (Mod.refl [] w).alloc _
  refine ⟨_, rfl, ⟨_, _, (w.heap.size, .cells #[.slice (some ⟨b2, 0, none⟩) vs.length vs.length] 124 (0, 0)) :: (b2, .cells vs.toArray 83 (0, 0)) :: S, rfl, enters_of Tryz.func131 (by kernel_rfl) rfl, ?_, ?_, ?_⟩, ?_⟩
  · intro x hx
    simp only [List.mem_cons] at hx
    rcases hx with rfl | rfl | hx
    · exact hn1
    · exact hm.row H2.out (by simp)
    · exact hm.row (hS x hx) (by simp)
  · intro x hx
    simp only [List.mem_cons] at hx
    have hs : (w.alloc (.cells #[.slice (some ⟨b2, 0, none⟩) vs.length vs.length] 124)).heap.size = w.heap.size + 1 := by simp
    rw [hs]
    rcases hx with rfl | rfl | hx
    · simp; omega
    · simp; omega
    · have := hW x hx; omega
  · intro w' hS2 c h0 h1
    exact either1_any lo w.heap.size vs ps c _ _ w' h0 h1 hl (hS2 (_, _) (by simp)) (hS2 (b2, .cells vs.toArray 83 (0, 0)) (by simp)) (hS' w' fun x hx => hS2 x (by simp [hx]))
  · exact hm.toBelow (Nat.le_refl _) (by simp)

theorem anyB_al : anyB [spanB 97 122, spanB 65 90, spanB 48 57] = alB := by funext c; simp [anyB, alB, Bool.or_assoc]
theorem anyB_at : anyB [alB, amongB othersL] = atB := by funext c; simp [anyB, atB]
theorem anyB_la : anyB [alB, amongB [45]] = laB := by funext c; simp [anyB, laB]
theorem nums_others : nums { data := #[33, 35, 36, 37, 38, 39, 42, 43, 45, 47, 61, 63, 94, 95, 96, 123, 124, 125, 126] } = othersL := by decide +kernel
theorem nums_dash : nums { data := #[45] } = [45] := by decide +kernel

set_option maxHeartbeats 1000000 in
theorem alnum_any (w : World) :
    Calls Tryz.prog 117 #[] w (KindP alB w) := by
  go_enter Tryz.func117, Tryz.ntmps117
  go_wp2_with fail
  refine (span_any _ _ _).mono ?_
  rintro e w1 ⟨v1, rfl, hk1, hb1⟩
  obtain ⟨f1, c1, rfl⟩ := hk1.shape
  have HK1 := Lib.hid hk1
  have HB1 := Lib.hid hb1
  clear hk1 hb1
  go_wp2_with fail
  refine (span_any _ _ _).mono ?_
  rintro e w2 ⟨v2, rfl, hk2, hb2⟩
  obtain ⟨f2, c2, rfl⟩ := hk2.shape
  have HK2 := Lib.hid hk2
  have HB2 := Lib.hid hb2
  clear hk2 hb2
  go_wp2_with fail
  refine (span_any _ _ _).mono ?_
  rintro e w3 ⟨v3, rfl, hk3, hb3⟩
  obtain ⟨f3, c3, rfl⟩ := hk3.shape
  have HK3 := Lib.hid hk3
  have HB3 := Lib.hid hb3
  clear hk3 hb3
  go_wp2_with fail
  have hs1 := HB1.out.size
  have hs2 := HB2.out.size
  have hs3 := HB3.out.size
  have hm4 : Mod [] w3 (w3.alloc (.cells [Value.func (.func f1) #[] c1, .func (.func f2) #[] c2, .func (.func f3) #[] c3].toArray 83)) := (Mod.refl [] w3).alloc _
  have hz4 : (w3.alloc (.cells [Value.func (.func f1) #[] c1, .func (.func f2) #[] c2, .func (.func f3) #[] c3].toArray 83)).heap.size = w3.heap.size + 1 := by simp
  refine (either_any w.heap.size [.func (.func f1) #[] c1, .func (.func f2) #[] c2, .func (.func f3) #[] c3] [spanB 97 122, spanB 65 90, spanB 48 57] w3.heap.size 3 _ rfl (by simp) (by omega) (heap_alloc_new w3 _) ?_).mono ?_
  · rw [hz4]
    refine Kds.cons (((HK1.out.quiet (Mod.ofBelow HB2.out)).quiet (Mod.ofBelow HB3.out)).quiet hm4 |>.mono (by omega) (by omega)) (Kds.cons ((HK2.out.quiet (Mod.ofBelow HB3.out)).quiet hm4 |>.mono (by omega) (by omega)) (Kds.cons (HK3.out.quiet hm4 |>.mono (by omega) (by omega)) (Kds.nil _ _ _)))
  rintro e w5 ⟨v5, rfl, hk5, hb5⟩
  obtain ⟨f5, c5, rfl⟩ := hk5.shape
  rw [anyB_al] at hk5
  have HK5 := Lib.hid hk5
  have HB5 := Lib.hid (((HB1.out.trans (HB2.out.mono hs1)).trans (HB3.out.mono (by omega))).trans ((hm4.toBelow (B := w.heap.size) (by omega) (by simp)).trans (hb5.mono (by omega))))
  clear hk5 hb5 hm4 hz4
  go_wp2_with fail
  go_ret
  exact ⟨_, rfl, HK5.out, HB5.out⟩

set_option maxHeartbeats 1000000 in
theorem two_kinds (q : Int → Bool) (p : Int → Bool) (hp : anyB [alB, q] = p) (w w1 w2 : World) (f1 f2 : FuncId) (c1 c2 : Array Value)
    (HK1 : Kd w.heap.size w1.heap.size w1 (.func (.func f1) #[] c1) alB) (HB1 : Below w.heap.size w w1) (HK2 : Kd w1.heap.size w2.heap.size w2 (.func (.func f2) #[] c2) q) (HB2 : Below w1.heap.size w1 w2)
    (R : Ending → World → Prop) (hR : ∀ v w5, Kd w.heap.size w5.heap.size w5 v p → Below w.heap.size w w5 → R (.returned v) w5) :
    Calls Tryz.prog 116 #[.slice (some ⟨w2.heap.size, 0, none⟩) 2 2] (w2.alloc (.cells #[.func (.func f1) #[] c1, .func (.func f2) #[] c2] 83)) R := by
  have hs1 := HB1.size
  have hs2 := HB2.size
  have hm4 : Mod [] w2 (w2.alloc (.cells [Value.func (.func f1) #[] c1, .func (.func f2) #[] c2].toArray 83)) := (Mod.refl [] w2).alloc _
  have hz4 : (w2.alloc (.cells [Value.func (.func f1) #[] c1, .func (.func f2) #[] c2].toArray 83)).heap.size = w2.heap.size + 1 := by simp
  refine (either_any w.heap.size [.func (.func f1) #[] c1, .func (.func f2) #[] c2] [alB, q] w2.heap.size 2 _ rfl (by simp) (by omega) (heap_alloc_new w2 _) ?_).mono ?_
  · rw [hz4]
    refine Kds.cons ((HK1.quiet (Mod.ofBelow HB2)).quiet hm4 |>.mono (by omega) (by omega)) (Kds.cons (HK2.quiet hm4 |>.mono (by omega) (by omega)) (Kds.nil _ _ _))
  rintro e w5 ⟨v5, rfl, hk5, hb5⟩
  rw [hp] at hk5
  exact hR v5 w5 hk5 ((HB1.trans (HB2.mono hs1)).trans ((hm4.toBelow (B := w.heap.size) (by omega) (by simp)).trans (hb5.mono (by omega))))

set_option maxHeartbeats 1000000 in
theorem inAtom_any (w : World) :
    Calls Tryz.prog 100 #[] w (KindP atB w) := by
  go_enter Tryz.func100, Tryz.ntmps100
  go_wp2_with fail
  refine (alnum_any _).mono ?_
  rintro e w1 ⟨v1, rfl, hk1, hb1⟩
  obtain ⟨f1, c1, rfl⟩ := hk1.shape
  have HK1 := Lib.hid hk1
  have HB1 := Lib.hid hb1
  clear hk1 hb1
  go_wp2_with fail
  refine (among_any _ _).mono ?_
  rintro e w2 ⟨v2, rfl, hk2, hb2⟩
  obtain ⟨f2, c2, rfl⟩ := hk2.shape
  rw [nums_others] at hk2
  have HK2 := Lib.hid hk2
  have HB2 := Lib.hid hb2
  clear hk2 hb2
  go_wp2_with fail
  refine two_kinds _ _ anyB_at w w1 w2 _ _ _ _ HK1.out HB1.out HK2.out HB2.out _ ?_
  intro v w5 hk hb
  obtain ⟨f5, c5, rfl⟩ := hk.shape
  have HK5 := Lib.hid hk
  have HB5 := Lib.hid hb
  clear hk hb
  go_wp2_with fail
  go_ret
  exact ⟨_, rfl, HK5.out, HB5.out⟩

set_option maxHeartbeats 1000000 in
theorem inLabel_any (w : World) :
    Calls Tryz.prog 91 #[] w (KindP laB w) := by
  go_enter Tryz.func91, Tryz.ntmps91
  go_wp2_with fail
  refine (alnum_any _).mono ?_
  rintro e w1 ⟨v1, rfl, hk1, hb1⟩
  obtain ⟨f1, c1, rfl⟩ := hk1.shape
  have HK1 := Lib.hid hk1
  have HB1 := Lib.hid hb1
  clear hk1 hb1
  go_wp2_with fail
  refine (among_any _ _).mono ?_
  rintro e w2 ⟨v2, rfl, hk2, hb2⟩
  obtain ⟨f2, c2, rfl⟩ := hk2.shape
  rw [nums_dash] at hk2
  have HK2 := Lib.hid hk2
  have HB2 := Lib.hid hb2
  clear hk2 hb2
  go_wp2_with fail
  refine two_kinds _ _ anyB_la w w1 w2 _ _ _ _ HK1.out HB1.out HK2.out HB2.out _ ?_
  intro v w5 hk hb
  obtain ⟨f5, c5, rfl⟩ := hk.shape
  have HK5 := Lib.hid hk
  have HB5 := Lib.hid hb
  clear hk hb
  go_wp2_with fail
  go_ret
  exact ⟨_, rfl, HK5.out, HB5.out⟩

set_option maxHeartbeats 400000 in
theorem printable_any (w : World) :
    Calls Tryz.prog 75 #[] w (KindP prB w) := by
  go_enter Tryz.func75, Tryz.ntmps75
  go_wp2_with fail
  refine (span_any _ _ _).mono ?_
  rintro e w1 ⟨v1, rfl, hk1, hb1⟩
  obtain ⟨f1, c1, rfl⟩ := hk1.shape
  have HK1 := Lib.hid hk1
  have HB1 := Lib.hid hb1
  clear hk1 hb1
  go_wp2_with fail
  go_ret
  exact ⟨_, rfl, HK1.out, HB1.out⟩
end Go.Proofs.YthcgnnhfkejglaaGreatDoor

