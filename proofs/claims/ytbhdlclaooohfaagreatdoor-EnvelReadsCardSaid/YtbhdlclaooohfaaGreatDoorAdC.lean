import Derived.Test.YtbhdlclaooohfaaGreatDoorBlk
import Derived.Test.YtbhdlclaooohfaaGreatDoorAdP
import Derived.Test.YtbhdlclaooohfaaGreatDoorShelf
import Derived.Outline
import Derived.BigQuiet
/- Kinds of bytes: span, among, either and what they hand back. -/
namespace Go.Proofs.YtbhdlclaooohfaaGreatDoor.Ad
open Go.Shelf Go.ChangeShapes Go.WideShapes Go.ChangeAt Go.RowKit
set_option linter.unusedVariables false
set_option linter.unusedSimpArgs false

/-- a kind of bytes: a function value whose memory lies from lo on, below hi -/
def Kd (lo hi : Nat) (w : World) (v : Value) (p : Int → Bool) : Prop :=
  ∃ (f : Nat) (caps : Array Value) (S : List (Nat × Obj)), v = .func (.func f) #[] caps ∧ Enters Tryz.prog f ∧ Stands S w ∧ Within lo hi S ∧
    ∀ w' : World, Stands S w' → ∀ c : Int, 0 ≤ c → c < 256 → Calls Tryz.prog f (#[.int .u8 c] ++ caps) w' fun e w'' => e = .returned (.bool (p c)) ∧ w' = w''
theorem Kd.mod {lo hi : Nat} {F : List Nat} {w w' : World} {v : Value} {p : Int → Bool} (h : Kd lo hi w v p) (hm : Mod F w w') (hF : ∀ k ∈ F, k < lo ∨ hi ≤ k) : Kd lo hi w' v p := by
  obtain ⟨f, caps, S, h1, he, h2, h3, h4⟩ := h
  exact ⟨f, caps, S, h1, he, h2.mod h3 hm hF, h3, h4⟩
theorem Kd.quiet {lo hi : Nat} {w w' : World} {v : Value} {p : Int → Bool} (h : Kd lo hi w v p) (hm : Mod [] w w') : Kd lo hi w' v p := h.mod hm (by simp)
theorem Kd.mono {lo hi lo' hi' : Nat} {w : World} {v : Value} {p : Int → Bool} (h : Kd lo hi w v p) (h1 : lo' ≤ lo) (h2 : hi ≤ hi') : Kd lo' hi' w v p := by
  obtain ⟨f, caps, S, k1, ke, k2, k3, k4⟩ := h
  exact ⟨f, caps, S, k1, ke, k2, k3.mono h1 h2, k4⟩

def KindP (p : Int → Bool) (w : World) (e : Ending) (w' : World) : Prop := ∃ v, e = .returned v ∧ Kd w.heap.size w'.heap.size w' v p ∧ Below w.heap.size w w'

theorem ret_bool {a b : Bool} (h : a = b) : Ending.returned (.bool a) = .returned (.bool b) := by rw [h]

set_option maxHeartbeats 400000 in
theorem span1_any (lo hi c : Int) (b1 b2 : Nat) (w : World) (h1 : w.heap[b1]? = some (.cells #[.int .u8 lo] 5 (0, 0))) (h2 : w.heap[b2]? = some (.cells #[.int .u8 hi] 5 (0, 0))) :
    Calls Tryz.prog 90 #[.int .u8 c, .pointer (some ⟨b1, 0, none⟩), .pointer (some ⟨b2, 0, none⟩)] w fun e w' => e = .returned (.bool (spanB lo hi c)) ∧ w = w' := by
  have c1 := blk_cell h1 0
  have c2 := blk_cell h2 0
  clear h1 h2
  by_cases hl : lo ≤ c
  · by_cases hh : c ≤ hi
    all_goals
      go_enter Tryz.func90, Tryz.ntmps90
      go_wp2_with fail
      go_ret
      exact ⟨ret_bool (by simp [spanB, hl, hh]), rfl⟩
  · go_enter Tryz.func90, Tryz.ntmps90
    go_wp2_with fail
    go_ret
    exact ⟨ret_bool (by simp only [spanB, show decide (lo ≤ c) = false from decide_eq_false (by omega), Bool.false_and]), rfl⟩

set_option maxHeartbeats 400000 in
theorem span_any (lo hi : Int) (w : World) :
    Calls Tryz.prog 84 #[.int .u8 lo, .int .u8 hi] w (KindP (spanB lo hi) w) := by
  have hmf : ∀ (fn : Fn) (first cp : Array Value) (w : World), (Instr.makeFunc fn first cp).run Tryz.prog w = .ok (.func fn first cp) w := fun _ _ _ _ => rfl
  go_enter Tryz.func84, Tryz.ntmps84
  go_wp2_with fail
  go_ret
  have hn1 := heap_alloc_new w (.cells #[.int .u8 lo] 5)
  have hn2 := heap_alloc_new (w.alloc (.cells #[.int .u8 lo] 5)) (.cells #[.int .u8 hi] 5)
  have hs : (w.alloc (.cells #[.int .u8 lo] 5)).heap.size = w.heap.size + 1 := by simp
  refine ⟨_, rfl, ⟨_, _, [(w.heap.size, .cells #[.int .u8 lo] 5 (0, 0)), (w.heap.size + 1, .cells #[.int .u8 hi] 5 (0, 0))], rfl, enters_of Tryz.func90 (by kernel_rfl) rfl, ?_, ?_, ?_⟩, ?_⟩
  · intro x hx
    simp at hx
    rcases hx with rfl | rfl
    · exact ((Mod.refl [] _).alloc _).row hn1 (by simp)
    · rw [hs] at hn2; exact hn2
  · intro x hx
    simp at hx
    rcases hx with rfl | rfl <;> (simp; try omega)
  · intro w' hS c h0 h1
    exact span1_any lo hi c _ _ w' (hS (_, _) (by simp)) (hS (_, _) (by simp))
  · exact (((Mod.refl [] w).alloc _).alloc _).toBelow (Nat.le_refl _) (by simp)

theorem indexByte_mem (l : List UInt8) (c : UInt8) : (-1 ≤ Lib.indexByte l c) ∧ ((0 ≤ Lib.indexByte l c) ↔ c ∈ l) := by
  induction l with
  | nil => simp [Lib.indexByte]
  | cons b l ih =>
    unfold Lib.indexByte
    by_cases h : b = c
    · subst h; simp
    · have hb : (b == c) = false := by simp [h]
      have hne : ¬ c = b := fun e => h e.symm
      rw [hb]
      simp only [Bool.false_eq_true, if_false, List.mem_cons, hne, false_or]
      by_cases h1 : Lib.indexByte l c = -1
      · rw [← ih.2]; simp [h1]
      · have : (Lib.indexByte l c == -1) = false := by simp [h1]
        rw [this, ← ih.2]
        simp only [Bool.false_eq_true, if_false]
        omega
theorem among_mem (s : ByteArray) (c : Int) (h0 : 0 ≤ c) (h1 : c < 256) : decide (0 ≤ Lib.indexByte s.data.toList c.toNat.toUInt8) = amongB (nums s) c := by
  have e := (indexByte_mem s.data.toList c.toNat.toUInt8).2
  rw [Bool.eq_iff_iff, decide_eq_true_iff, e]
  unfold amongB nums
  rw [List.contains_iff_mem, List.mem_map]
  constructor
  · intro h
    refine ⟨_, h, ?_⟩
    simp
    omega
  · rintro ⟨b, hb, rfl⟩
    simpa using hb

set_option maxHeartbeats 400000 in
theorem among1_any (s : ByteArray) (c : Int) (b1 : Nat) (w : World) (h0 : 0 ≤ c) (hc : c < 256) (h1 : w.heap[b1]? = some (.cells #[.string s] 9 (0, 0))) :
    Calls Tryz.prog 102 #[.int .u8 c, .pointer (some ⟨b1, 0, none⟩)] w fun e w' => e = .returned (.bool (amongB (nums s) c)) ∧ w = w' := by
  have c1 := blk_cell h1 0
  have HE := Lib.hid (among_mem s c h0 hc)
  have hlo := (indexByte_mem s.data.toList c.toNat.toUInt8).1
  clear h1
  go_enter Tryz.func102, Tryz.ntmps102
  go_wp2_with (go_at_call 103; refine (Tryz.strings_IndexByte _ _ _).mono ?_; rintro e w' ⟨rfl, rfl⟩)
  go_ret
  exact ⟨ret_bool HE.out, rfl⟩

set_option maxHeartbeats 400000 in
theorem among_any (s : ByteArray) (w : World) :
    Calls Tryz.prog 99 #[.string s] w (KindP (amongB (nums s)) w) := by
  have hmf : ∀ (fn : Fn) (first cp : Array Value) (w : World), (Instr.makeFunc fn first cp).run Tryz.prog w = .ok (.func fn first cp) w := fun _ _ _ _ => rfl
  go_enter Tryz.func99, Tryz.ntmps99
  go_wp2_with fail
  go_ret
  have hn1 := heap_alloc_new w (.cells #[.string s] 9)
  refine ⟨_, rfl, ⟨_, _, [(w.heap.size, .cells #[.string s] 9 (0, 0))], rfl, enters_of Tryz.func102 (by kernel_rfl) rfl, ?_, ?_, ?_⟩, ?_⟩
  · intro x hx
    simp at hx
    subst hx
    exact hn1
  · intro x hx
    simp at hx
    subst hx
    simp
  · intro w' hS c h0 h1
    exact among1_any s c _ w' h0 h1 (hS (_, _) (by simp))
  · exact ((Mod.refl [] w).alloc _).toBelow (Nat.le_refl _) (by simp)

/-- kinds in a row -/
def Kds (lo hi : Nat) (w : World) (vs : List Value) (ps : List (Int → Bool)) : Prop := vs.length = ps.length ∧ ∀ i, i < vs.length → Kd lo hi w (vs.getD i .nilFunc) (ps.getD i fun _ => false)
/-- none of the first k -/
def NoneB (ps : List (Int → Bool)) (c : Int) (k : Nat) : Prop := ∀ i, i < k → (ps.getD i fun _ => false) c = false
theorem NoneB.step {ps : List (Int → Bool)} {c : Int} {k : Nat} (h : NoneB ps c k) (hk : (ps.getD k fun _ => false) c = false) : NoneB ps c (k + 1) := fun i hi => by
  by_cases e : i = k
  · subst e; exact hk
  · exact h i (by omega)
def anyB (ps : List (Int → Bool)) (c : Int) : Bool := ps.any fun p => p c
theorem anyB_none {ps : List (Int → Bool)} {c : Int} {k : Nat} (h : NoneB ps c k) (hk : ps.length ≤ k) : anyB ps c = false := by
  unfold anyB
  rw [List.any_eq_false]
  intro p hp
  obtain ⟨i, hi, rfl⟩ := List.getElem_of_mem hp
  have := h i (by omega)
  simpa [List.getD, hi] using this
theorem anyB_some {ps : List (Int → Bool)} {c : Int} {k : Nat} (hk : k < ps.length) (h : (ps.getD k fun _ => false) c = true) : anyB ps c = true := by
  unfold anyB
  rw [List.any_eq_true]
  refine ⟨ps[k], List.getElem_mem hk, ?_⟩
  simpa [List.getD, hk] using h

set_option maxHeartbeats 1000000 in
theorem either1_any (lo hi : Nat) (vs : List Value) (ps : List (Int → Bool)) (c : Int) (b1 b2 : Nat) (w : World) (h0 : 0 ≤ c) (hc : c < 256) (hl : vs.length ≤ 1000)
    (h1 : w.heap[b1]? = some (.cells #[.slice (some ⟨b2, 0, none⟩) vs.length vs.length] 137 (0, 0))) (h2 : w.heap[b2]? = some (.cells vs.toArray 125 (0, 0))) (hk : Kds lo hi w vs ps) :
    Calls Tryz.prog 101 #[.int .u8 c, .pointer (some ⟨b1, 0, none⟩)] w fun e w' => e = .returned (.bool (anyB ps c)) ∧ w = w' := by
  have c1 := blk_cell h1 0
  have H2 := Lib.hid h2
  have HK := Lib.hid hk
  clear h1 h2 hk
  go_enter Tryz.func101, Tryz.ntmps101
  go_wp2_with fail
  go_loop [8, 5] (fun i _ => ∃ k : Nat, i = .int .i64 k ∧ k ≤ vs.length ∧ NoneB ps c k) (fun i _ => (vs.length - (intOf i)).toNat)
  case atStart => exact ⟨0, rfl, Nat.zero_le _, fun i hi => by omega⟩
  case round =>
    obtain ⟨k, rfl, hkl, hno⟩ := hrel
    have HN := Lib.hid hno
    clear hno
    by_cases hlt : k < vs.length
    · obtain ⟨f, caps, S, hv, hent, hS, hW, hC⟩ := HK.out.2 k hlt
      have hcell : w.cell? ⟨b2, k, none⟩ = some (.func (.func f) #[] caps) := by
        rw [← hv, blk_cell H2.out k]
        simp [List.getD, hlt]
      have HC := Lib.hid (hC w hS c h0 hc)
      have hent' : ∀ args w, (callFunc f args).run Tryz.prog w = .ok (.enter f args) w := hent
      clear hv hS hW hC hent
      generalize hpk : (ps.getD k fun _ => false) c = q at HC
      have HQ := Lib.hid hpk
      clear hpk
      cases q
      · go_wp2_with ((with_reducible refine HC.out.mono ?_); rintro e w1 ⟨rfl, rfl⟩)
        clear hent'
        go_round
        case rel => exact ⟨k + 1, by go_num, by omega, HN.out.step HQ.out⟩
        case measure => simp [intOf]; omega
      · go_wp2_with ((with_reducible refine HC.out.mono ?_); rintro e w1 ⟨rfl, rfl⟩)
        go_ret
        exact ⟨ret_bool (anyB_some (by rw [← HK.out.1]; exact hlt) HQ.out).symm, rfl⟩
    · go_wp2_with fail
      go_ret
      exact ⟨ret_bool (anyB_none HN.out (by rw [← HK.out.1]; omega)).symm, rfl⟩
end Go.Proofs.YtbhdlclaooohfaaGreatDoor.Ad

/- Kinds of bytes: either, alphanumeric, inAtom, inLabel, printable. -/
namespace Go.Proofs.YtbhdlclaooohfaaGreatDoor.Ad
open Go.Shelf Go.ChangeShapes Go.WideShapes Go.ChangeAt Go.RowKit
set_option linter.unusedVariables false
set_option linter.unusedSimpArgs false

theorem Kds.support {lo hi : Nat} {w : World} : ∀ {vs : List Value} {ps : List (Int → Bool)}, Kds lo hi w vs ps → ∃ S, Stands S w ∧ Within lo hi S ∧ ∀ w', Stands S w' → Kds lo hi w' vs ps
  | [], ps, h => ⟨[], fun x hx => (by simp at hx), fun x hx => (by simp at hx), fun w' _ => ⟨h.1, fun i hi => (by simp at hi)⟩⟩
  | v :: vs, [], h => absurd h.1 (by simp)
  | v :: vs, p :: ps, h => by
    obtain ⟨f, caps, S0, h1, he, h2, h3, h4⟩ := h.2 0 (by simp)
    obtain ⟨S, k1, k2, k3⟩ := Kds.support (vs := vs) (ps := ps) ⟨by simpa using h.1, fun i hi' => by simpa using h.2 (i + 1) (by simpa using hi')⟩
    refine ⟨S0 ++ S, Stands.append.2 ⟨h2, k1⟩, h3.append k2, fun w' hw => ?_⟩
    obtain ⟨hw1, hw2⟩ := Stands.append.1 hw
    have hk := k3 w' hw2
    refine ⟨h.1, fun i hi' => ?_⟩
    cases i with
    | zero => exact ⟨f, caps, S0, h1, he, hw1, h3, h4⟩
    | succ i => simpa using hk.2 i (by simpa using hi')
theorem Kds.nil (lo hi : Nat) (w : World) : Kds lo hi w [] [] := ⟨rfl, fun i h => by simp at h⟩
theorem Kds.cons {lo hi : Nat} {w : World} {v : Value} {p : Int → Bool} {vs : List Value} {ps : List (Int → Bool)} (h : Kd lo hi w v p) (k : Kds lo hi w vs ps) : Kds lo hi w (v :: vs) (p :: ps) :=
  ⟨by simp [k.1], fun i hi' => by
    cases i with
    | zero => exact h
    | succ i => simpa using k.2 i (by simpa using hi')⟩
theorem Kd.shape {lo hi : Nat} {w : World} {v : Value} {p : Int → Bool} (h : Kd lo hi w v p) : ∃ f caps, v = .func (.func f) #[] caps := by
  obtain ⟨f, caps, S, h1, _⟩ := h
  exact ⟨f, caps, h1⟩

def EitherP (lo : Nat) (p : Int → Bool) (w : World) (e : Ending) (w' : World) : Prop := ∃ v, e = .returned v ∧ Kd lo w'.heap.size w' v p ∧ Below w.heap.size w w'

set_option maxHeartbeats 400000 in
theorem either_any (lo : Nat) (vs : List Value) (ps : List (Int → Bool)) (b2 n : Nat) (w : World) (hn : n = vs.length) (hl : vs.length ≤ 1000) (hlo : lo ≤ b2) (h2 : w.heap[b2]? = some (.cells vs.toArray 125 (0, 0))) (hk : Kds lo w.heap.size w vs ps) :
    Calls Tryz.prog 97 #[.slice (some ⟨b2, 0, none⟩) n n] w (EitherP lo (anyB ps) w) := by
  subst hn
  have hmf : ∀ (fn : Fn) (first cp : Array Value) (w : World), (Instr.makeFunc fn first cp).run Tryz.prog w = .ok (.func fn first cp) w := fun _ _ _ _ => rfl
  have H2 := Lib.hid h2
  have HK := Lib.hid hk
  clear h2 hk
  go_enter Tryz.func97, Tryz.ntmps97
  go_wp2_with fail
  go_ret
  obtain ⟨S, hS, hW, hS'⟩ := HK.out.support
  have hb2 := blk_lt H2.out
  have hn1 := heap_alloc_new w (.cells #[.slice (some ⟨b2, 0, none⟩) vs.length vs.length] 137)
  have hm : Mod [] w (w.alloc (.cells #[.slice (some ⟨b2, 0, none⟩) vs.length vs.length] 137)) := (Mod.refl [] w).alloc _
  refine ⟨_, rfl, ⟨_, _, (w.heap.size, .cells #[.slice (some ⟨b2, 0, none⟩) vs.length vs.length] 137 (0, 0)) :: (b2, .cells vs.toArray 125 (0, 0)) :: S, rfl, enters_of Tryz.func101 (by kernel_rfl) rfl, ?_, ?_, ?_⟩, ?_⟩
  · intro x hx
    simp only [List.mem_cons] at hx
    rcases hx with rfl | rfl | hx
    · exact hn1
    · exact hm.row H2.out (by simp)
    · exact hm.row (hS x hx) (by simp)
  · intro x hx
    simp only [List.mem_cons] at hx
    have hs : (w.alloc (.cells #[.slice (some ⟨b2, 0, none⟩) vs.length vs.length] 137)).heap.size = w.heap.size + 1 := by simp
    rw [hs]
    rcases hx with rfl | rfl | hx
    · simp; omega
    · simp; omega
    · have := hW x hx; omega
  · intro w' hS2 c h0 h1
    exact either1_any lo w.heap.size vs ps c _ _ w' h0 h1 hl (hS2 (_, _) (by simp)) (hS2 (b2, .cells vs.toArray 125 (0, 0)) (by simp)) (hS' w' fun x hx => hS2 x (by simp [hx]))
  · exact hm.toBelow (Nat.le_refl _) (by simp)

theorem anyB_al : anyB [spanB 97 122, spanB 65 90, spanB 48 57] = alB := by funext c; simp [anyB, alB, Bool.or_assoc]
theorem anyB_at : anyB [alB, amongB othersL] = atB := by funext c; simp [anyB, atB]
theorem anyB_la : anyB [alB, amongB [45]] = laB := by funext c; simp [anyB, laB]
theorem nums_others : nums { data := #[33, 35, 36, 37, 38, 39, 42, 43, 45, 47, 61, 63, 94, 95, 96, 123, 124, 125, 126] } = othersL := by decide +kernel
theorem nums_dash : nums { data := #[45] } = [45] := by decide +kernel

set_option maxHeartbeats 1000000 in
theorem alnum_any (w : World) :
    Calls Tryz.prog 98 #[] w (KindP alB w) := by
  go_enter Tryz.func98, Tryz.ntmps98
  go_wp2_with fail
  refine (span_any _ _ _).mono ?_
  rintro e w1 ⟨v1, rfl, hk1, hb1⟩
  obtain ⟨f1, c1, rfl⟩ := hk1.shape
  have HK1 := Lib.hid hk1
  have HB1 := Lib.hid hb1
  clear hk1 hb1
  go_wp2_with fail
  refine (span_any _ _ _).mono ?_
  rintro e w2 ⟨v2, rfl, hk2, hb2⟩
  obtain ⟨f2, c2, rfl⟩ := hk2.shape
  have HK2 := Lib.hid hk2
  have HB2 := Lib.hid hb2
  clear hk2 hb2
  go_wp2_with fail
  refine (span_any _ _ _).mono ?_
  rintro e w3 ⟨v3, rfl, hk3, hb3⟩
  obtain ⟨f3, c3, rfl⟩ := hk3.shape
  have HK3 := Lib.hid hk3
  have HB3 := Lib.hid hb3
  clear hk3 hb3
  go_wp2_with fail
  have hs1 := HB1.out.size
  have hs2 := HB2.out.size
  have hs3 := HB3.out.size
  have hm4 : Mod [] w3 (w3.alloc (.cells [Value.func (.func f1) #[] c1, .func (.func f2) #[] c2, .func (.func f3) #[] c3].toArray 125)) := (Mod.refl [] w3).alloc _
  have hz4 : (w3.alloc (.cells [Value.func (.func f1) #[] c1, .func (.func f2) #[] c2, .func (.func f3) #[] c3].toArray 125)).heap.size = w3.heap.size + 1 := by simp
  refine (either_any w.heap.size [.func (.func f1) #[] c1, .func (.func f2) #[] c2, .func (.func f3) #[] c3] [spanB 97 122, spanB 65 90, spanB 48 57] w3.heap.size 3 _ rfl (by simp) (by omega) (heap_alloc_new w3 _) ?_).mono ?_
  · rw [hz4]
    refine Kds.cons (((HK1.out.quiet (Mod.ofBelow HB2.out)).quiet (Mod.ofBelow HB3.out)).quiet hm4 |>.mono (by omega) (by omega)) (Kds.cons ((HK2.out.quiet (Mod.ofBelow HB3.out)).quiet hm4 |>.mono (by omega) (by omega)) (Kds.cons (HK3.out.quiet hm4 |>.mono (by omega) (by omega)) (Kds.nil _ _ _)))
  rintro e w5 ⟨v5, rfl, hk5, hb5⟩
  obtain ⟨f5, c5, rfl⟩ := hk5.shape
  rw [anyB_al] at hk5
  have HK5 := Lib.hid hk5
  have HB5 := Lib.hid (((HB1.out.trans (HB2.out.mono hs1)).trans (HB3.out.mono (by omega))).trans ((hm4.toBelow (B := w.heap.size) (by omega) (by simp)).trans (hb5.mono (by omega))))
  clear hk5 hb5 hm4 hz4
  go_wp2_with fail
  go_ret
  exact ⟨_, rfl, HK5.out, HB5.out⟩

set_option maxHeartbeats 1000000 in
theorem two_kinds (q : Int → Bool) (p : Int → Bool) (hp : anyB [alB, q] = p) (w w1 w2 : World) (f1 f2 : FuncId) (c1 c2 : Array Value)
    (HK1 : Kd w.heap.size w1.heap.size w1 (.func (.func f1) #[] c1) alB) (HB1 : Below w.heap.size w w1) (HK2 : Kd w1.heap.size w2.heap.size w2 (.func (.func f2) #[] c2) q) (HB2 : Below w1.heap.size w1 w2)
    (R : Ending → World → Prop) (hR : ∀ v w5, Kd w.heap.size w5.heap.size w5 v p → Below w.heap.size w w5 → R (.returned v) w5) :
    Calls Tryz.prog 97 #[.slice (some ⟨w2.heap.size, 0, none⟩) 2 2] (w2.alloc (.cells #[.func (.func f1) #[] c1, .func (.func f2) #[] c2] 125)) R := by
  have hs1 := HB1.size
  have hs2 := HB2.size
  have hm4 : Mod [] w2 (w2.alloc (.cells [Value.func (.func f1) #[] c1, .func (.func f2) #[] c2].toArray 125)) := (Mod.refl [] w2).alloc _
  have hz4 : (w2.alloc (.cells [Value.func (.func f1) #[] c1, .func (.func f2) #[] c2].toArray 125)).heap.size = w2.heap.size + 1 := by simp
  refine (either_any w.heap.size [.func (.func f1) #[] c1, .func (.func f2) #[] c2] [alB, q] w2.heap.size 2 _ rfl (by simp) (by omega) (heap_alloc_new w2 _) ?_).mono ?_
  · rw [hz4]
    refine Kds.cons ((HK1.quiet (Mod.ofBelow HB2)).quiet hm4 |>.mono (by omega) (by omega)) (Kds.cons (HK2.quiet hm4 |>.mono (by omega) (by omega)) (Kds.nil _ _ _))
  rintro e w5 ⟨v5, rfl, hk5, hb5⟩
  rw [hp] at hk5
  exact hR v5 w5 hk5 ((HB1.trans (HB2.mono hs1)).trans ((hm4.toBelow (B := w.heap.size) (by omega) (by simp)).trans (hb5.mono (by omega))))

set_option maxHeartbeats 1000000 in
theorem inLabel_any (w : World) :
    Calls Tryz.prog 91 #[] w (KindP laB w) := by
  go_enter Tryz.func91, Tryz.ntmps91
  go_wp2_with fail
  refine (alnum_any _).mono ?_
  rintro e w1 ⟨v1, rfl, hk1, hb1⟩
  obtain ⟨f1, c1, rfl⟩ := hk1.shape
  have HK1 := Lib.hid hk1
  have HB1 := Lib.hid hb1
  clear hk1 hb1
  go_wp2_with fail
  refine (among_any _ _).mono ?_
  rintro e w2 ⟨v2, rfl, hk2, hb2⟩
  obtain ⟨f2, c2, rfl⟩ := hk2.shape
  rw [nums_dash] at hk2
  have HK2 := Lib.hid hk2
  have HB2 := Lib.hid hb2
  clear hk2 hb2
  go_wp2_with fail
  refine two_kinds _ _ anyB_la w w1 w2 _ _ _ _ HK1.out HB1.out HK2.out HB2.out _ ?_
  intro v w5 hk hb
  obtain ⟨f5, c5, rfl⟩ := hk.shape
  have HK5 := Lib.hid hk
  have HB5 := Lib.hid hb
  clear hk hb
  go_wp2_with fail
  go_ret
  exact ⟨_, rfl, HK5.out, HB5.out⟩

set_option maxHeartbeats 400000 in
theorem printable_any (w : World) :
    Calls Tryz.prog 74 #[] w (KindP prB w) := by
  go_enter Tryz.func74, Tryz.ntmps74
  go_wp2_with fail
  refine (span_any _ _ _).mono ?_
  rintro e w1 ⟨v1, rfl, hk1, hb1⟩
  obtain ⟨f1, c1, rfl⟩ := hk1.shape
  have HK1 := Lib.hid hk1
  have HB1 := Lib.hid hb1
  clear hk1 hb1
  go_wp2_with fail
  go_ret
  exact ⟨_, rfl, HK1.out, HB1.out⟩
end Go.Proofs.YtbhdlclaooohfaaGreatDoor.Ad

/- The reader: ended, fault, meets, take, pass, run. -/
namespace Go.Proofs.YtbhdlclaooohfaaGreatDoor.Ad
open Go.Shelf Go.ChangeShapes Go.WideShapes Go.ChangeAt Go.RowKit
set_option linter.unusedVariables false
set_option linter.unusedSimpArgs false

/-- a reader of the text s -/
def RD (w : World) (rb : Nat) (s : ByteArray) (at_ : Nat) (lg : Bool) : Prop := w.heap[rb]? = some (.cells #[.string s, .int .i64 at_, .bool lg] 123 (0, 0))
theorem RD.c0 {w : World} {rb : Nat} {s : ByteArray} {at_ : Nat} {lg : Bool} (h : RD w rb s at_ lg) : w.cell? ⟨rb, 0, none⟩ = some (.string s) := blk_cell h 0
theorem RD.c1 {w : World} {rb : Nat} {s : ByteArray} {at_ : Nat} {lg : Bool} (h : RD w rb s at_ lg) : w.cell? ⟨rb, 1, none⟩ = some (.int .i64 at_) := blk_cell h 1
theorem RD.c2 {w : World} {rb : Nat} {s : ByteArray} {at_ : Nat} {lg : Bool} (h : RD w rb s at_ lg) : w.cell? ⟨rb, 2, none⟩ = some (.bool lg) := blk_cell h 2
theorem RD.mod {F : List Nat} {w w' : World} {rb : Nat} {s : ByteArray} {at_ : Nat} {lg : Bool} (h : RD w rb s at_ lg) (hm : Mod F w w') (hF : rb ∉ F) : RD w' rb s at_ lg := hm.row h hF
theorem RD.quiet {w w' : World} {rb : Nat} {s : ByteArray} {at_ : Nat} {lg : Bool} (h : RD w rb s at_ lg) (hm : Mod [] w w') : RD w' rb s at_ lg := h.mod hm (by simp)
theorem RD.lt {w : World} {rb : Nat} {s : ByteArray} {at_ : Nat} {lg : Bool} (h : RD w rb s at_ lg) : rb < w.heap.size := blk_lt h
theorem RD.set1 {w : World} {rb : Nat} {s : ByteArray} {at_ : Nat} {lg : Bool} (h : RD w rb s at_ lg) (n : Nat) : RD (w.setCell ⟨rb, 1, none⟩ (.int .i64 n)) rb s n lg := by
  have := blk_set h 1 (.int .i64 n)
  simpa [RD] using this
theorem RD.set2 {w : World} {rb : Nat} {s : ByteArray} {at_ : Nat} {lg : Bool} (h : RD w rb s at_ lg) (g : Bool) : RD (w.setCell ⟨rb, 2, none⟩ (.bool g)) rb s at_ g := by
  have := blk_set h 2 (.bool g)
  simpa [RD] using this
theorem mod_drewN (w : World) (n : Nat) : Mod [] w (w.drewN n) := by
  induction n with
  | zero => exact Mod.refl _ _
  | succ n ih => exact (Mod.refl [] w).trans ⟨rfl, rfl, rfl, Nat.le_refl _, fun _ _ _ => rfl⟩
theorem Calls.quiet_same {P : Program} {f : FuncId} {args : Array Value} {w : World} {n : Nat} {v : Value}
    (h : Calls P f args (w.drewN n) fun e w' => e = .returned v ∧ w.drewN n = w') : Calls P f args (w.drewN n) fun e w'' => e = .returned v ∧ ∃ m, w'' = w.drewN m :=
  h.mono fun _ _ ⟨he, hm⟩ => ⟨he, n, hm.symm⟩

set_option maxHeartbeats 400000 in
theorem ended_any (rb : Nat) (s : ByteArray) (at_ : Nat) (lg : Bool) (w : World) (h : RD w rb s at_ lg) (hs : s.size ≤ 100000) :
    Calls Tryz.prog 75 #[.pointer (some ⟨rb, 0, none⟩)] w fun e w' => e = .returned (.bool ((at_ : Int) == (s.size : Int))) ∧ ∃ n, w' = w.drewN n := by
  have c0 := h.c0
  have c1 := h.c1
  clear h
  go_enter Tryz.func75, Tryz.ntmps75
  go_wp2_with fail
  go_quiet (fail)
  go_wp2_with fail
  go_ret
  exact ⟨rfl, _, rfl⟩

/-- does a byte of the kind stand there -/
def meetsB (p : Int → Bool) (l : List Int) (i : Nat) : Bool := match l[i]? with | none => false | some c => p c
theorem meetsB_end {p : Int → Bool} {l : List Int} : meetsB p l l.length = false := by simp [meetsB]
theorem meetsB_lt {p : Int → Bool} {l : List Int} {i : Nat} (h : i < l.length) : meetsB p l i = p (l.getD i 0) := by simp [meetsB, List.getD, h]
theorem str_at (s : ByteArray) (i : Nat) (h : i < s.size) : ((s[i].toNat : Nat) : Int) = (nums s).getD i 0 := by
  simp [nums, List.getD, h]
  rfl

set_option maxHeartbeats 1000000 in
theorem meets_any (rb : Nat) (s : ByteArray) (at_ : Nat) (lg : Bool) (w : World) (lo hi : Nat) (v : Value) (p : Int → Bool) (h : RD w rb s at_ lg) (hs : s.size ≤ 100000) (ha : at_ ≤ s.size) (hk : Kd lo hi w v p) :
    Calls Tryz.prog 83 #[.pointer (some ⟨rb, 0, none⟩), v] w fun e w' => e = .returned (.bool (meetsB p (nums s) at_)) ∧ ∃ n, w' = w.drewN n := by
  obtain ⟨f, caps, S, rfl, hent, hS, hW, hC⟩ := hk
  have c0 := h.c0
  have c1 := h.c1
  have H := Lib.hid h
  clear h
  have hent' : ∀ args w, (callFunc f args).run Tryz.prog w = .ok (.enter f args) w := hent
  by_cases he : at_ = s.size
  · subst he
    have hee : (((s.size : Nat) : Int) == (s.size : Int)) = true := by simp
    go_enter Tryz.func83, Tryz.ntmps83
    go_wp2_with fail
    go_quiet ((go_at_call 75; exact Calls.quiet_of (ended_any rb s _ lg _ (H.out.quiet (mod_drewN _ _)) hs)))
    go_wp2_with fail
    go_ret
    exact ⟨ret_bool (by rw [← nums_length s, meetsB_end]), _, rfl⟩
  · have hlt : at_ < s.size := by omega
    have hee : ((at_ : Int) == (s.size : Int)) = false := by simp; omega
    have hb := nums_bytes s
    have hbd := hb.getD at_
    have hst := str_at s at_ hlt
    have HC : Hid (∀ n, Calls Tryz.prog f (#[.int .u8 ((s[at_].toNat : Nat) : Int)] ++ caps) (w.drewN n) fun e w'' => e = .returned (.bool (p ((nums s).getD at_ 0))) ∧ w.drewN n = w'') := Lib.hid fun n => by
      rw [hst]; exact hC (w.drewN n) (hS.quiet (mod_drewN _ _)) _ hbd.1 hbd.2
    clear hst hbd hb hC hS hW
    go_enter Tryz.func83, Tryz.ntmps83
    go_wp2_with fail
    go_quiet (first | (go_at_call 75; exact Calls.quiet_of (ended_any rb s _ lg _ (H.out.quiet (mod_drewN _ _)) hs)) | (with_reducible exact Calls.quiet_same (HC.out _)))
    go_wp2_with fail
    go_ret
    exact ⟨ret_bool (meetsB_lt (by rw [nums_length]; exact hlt)).symm, _, rfl⟩
end Go.Proofs.YtbhdlclaooohfaaGreatDoor.Ad

