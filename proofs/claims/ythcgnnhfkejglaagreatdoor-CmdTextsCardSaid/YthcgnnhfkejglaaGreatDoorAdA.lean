import Derived.Test.YthcgnnhfkejglaaGreatDoorBlk
import Derived.Test.YthcgnnhfkejglaaGreatDoorAdP
import Derived.Test.YthcgnnhfkejglaaGreatDoorShelf
import Derived.Outline
/- Kinds of bytes: span, among, either and what they hand back. -/
namespace Go.Proofs.YthcgnnhfkejglaaGreatDoor
open Go.Shelf Go.ChangeShapes Go.WideShapes Go.ChangeAt Go.RowKit
set_option linter.unusedVariables false
set_option linter.unusedSimpArgs false

/-- a kind of bytes: a function value whose memory lies from lo on, below hi -/
def Kd (lo hi : Nat) (w : World) (v : Value) (p : Int → Bool) : Prop :=
  ∃ (f : Nat) (caps : Array Value) (S : List (Nat × Obj)), v = .func (.func f) #[] caps ∧ Enters Tryz.prog f ∧ Stands S w ∧ Within lo hi S ∧
    ∀ w' : World, Stands S w' → ∀ c : Int, 0 ≤ c → c < 256 → Calls Tryz.prog f (#[.int .u8 c] ++ caps) w' fun e w'' => e = .returned (.bool (p c)) ∧ w' = w''
theorem Kd.mod {lo hi : Nat} {F : List Nat} {w w' : World} {v : Value} {p : Int → Bool} (h : Kd lo hi w v p) (hm : Mod F w w') (hF : ∀ k ∈ F, k < lo ∨ hi ≤ k) : Kd lo hi w' v p := by
  obtain ⟨f, caps, S, h1, he, h2, h3, h4⟩ := h
  exact ⟨f, caps, S, h1, he, h2.mod h3 hm hF, h3, h4⟩
theorem Kd.quiet {lo hi : Nat} {w w' : World} {v : Value} {p : Int → Bool} (h : Kd lo hi w v p) (hm : Mod [] w w') : Kd lo hi w' v p := h.mod hm (by simp)
theorem Kd.mono {lo hi lo' hi' : Nat} {w : World} {v : Value} {p : Int → Bool} (h : Kd lo hi w v p) (h1 : lo' ≤ lo) (h2 : hi ≤ hi') : Kd lo' hi' w v p := by
  obtain ⟨f, caps, S, k1, ke, k2, k3, k4⟩ := h
  exact ⟨f, caps, S, k1, ke, k2, k3.mono h1 h2, k4⟩

def KindP (p : Int → Bool) (w : World) (e : Ending) (w' : World) : Prop := ∃ v, e = .returned v ∧ Kd w.heap.size w'.heap.size w' v p ∧ Below w.heap.size w w'

theorem ret_bool {a b : Bool} (h : a = b) : Ending.returned (.bool a) = .returned (.bool b) := by rw [h]

set_option maxHeartbeats 400000 in
theorem span1_any (lo hi c : Int) (b1 b2 : Nat) (w : World) (h1 : w.heap[b1]? = some (.cells #[.int .u8 lo] 5 (0, 0))) (h2 : w.heap[b2]? = some (.cells #[.int .u8 hi] 5 (0, 0))) :
    Calls Tryz.prog 119 #[.int .u8 c, .pointer (some ⟨b1, 0, none⟩), .pointer (some ⟨b2, 0, none⟩)] w fun e w' => e = .returned (.bool (spanB lo hi c)) ∧ w = w' := by
  have c1 := blk_cell h1 0
  have c2 := blk_cell h2 0
  clear h1 h2
  by_cases hl : lo ≤ c
  · by_cases hh : c ≤ hi
    all_goals
      go_enter Tryz.func119, Tryz.ntmps119
      go_wp2_with fail
      go_ret
      exact ⟨ret_bool (by simp [spanB, hl, hh]), rfl⟩
  · go_enter Tryz.func119, Tryz.ntmps119
    go_wp2_with fail
    go_ret
    exact ⟨ret_bool (by simp only [spanB, show decide (lo ≤ c) = false from decide_eq_false (by omega), Bool.false_and]), rfl⟩

set_option maxHeartbeats 400000 in
theorem span_any (lo hi : Int) (w : World) :
    Calls Tryz.prog 99 #[.int .u8 lo, .int .u8 hi] w (KindP (spanB lo hi) w) := by
  have hmf : ∀ (fn : Fn) (first cp : Array Value) (w : World), (Instr.makeFunc fn first cp).run Tryz.prog w = .ok (.func fn first cp) w := fun _ _ _ _ => rfl
  go_enter Tryz.func99, Tryz.ntmps99
  go_wp2_with fail
  go_ret
  have hn1 := heap_alloc_new w (.cells #[.int .u8 lo] 5)
  have hn2 := heap_alloc_new (w.alloc (.cells #[.int .u8 lo] 5)) (.cells #[.int .u8 hi] 5)
  have hs : (w.alloc (.cells #[.int .u8 lo] 5)).heap.size = w.heap.size + 1 := by simp
  refine ⟨_, rfl, ⟨_, _, [(w.heap.size, .cells #[.int .u8 lo] 5 (0, 0)), (w.heap.size + 1, .cells #[.int .u8 hi] 5 (0, 0))], rfl, enters_of Tryz.func119 (by kernel_rfl) rfl, ?_, ?_, ?_⟩, ?_⟩
  · intro x hx
    simp at hx
    rcases hx with rfl | rfl
    · exact ((Mod.refl [] _).alloc _).row hn1 (by simp)
    · rw [hs] at hn2; exact hn2
  · intro x hx
    simp at hx
    rcases hx with rfl | rfl <;> (simp; try omega)
  · intro w' hS c h0 h1
    exact span1_any lo hi c _ _ w' (hS (_, _) (by simp)) (hS (_, _) (by simp))
  · exact (((Mod.refl [] w).alloc _).alloc _).toBelow (Nat.le_refl _) (by simp)

theorem indexByte_mem (l : List UInt8) (c : UInt8) : (-1 ≤ Lib.indexByte l c) ∧ ((0 ≤ Lib.indexByte l c) ↔ c ∈ l) := by
  induction l with
  | nil => simp [Lib.indexByte]
  | cons b l ih =>
    unfold Lib.indexByte
    by_cases h : b = c
    · subst h; simp
    · have hb : (b == c) = false := by simp [h]
      have hne : ¬ c = b := fun e => h e.symm
      rw [hb]
      simp only [Bool.false_eq_true, if_false, List.mem_cons, hne, false_or]
      by_cases h1 : Lib.indexByte l c = -1
      · rw [← ih.2]; simp [h1]
      · have : (Lib.indexByte l c == -1) = false := by simp [h1]
        rw [this, ← ih.2]
        simp only [Bool.false_eq_true, if_false]
        omega
theorem among_mem (s : ByteArray) (c : Int) (h0 : 0 ≤ c) (h1 : c < 256) : decide (0 ≤ Lib.indexByte s.data.toList c.toNat.toUInt8) = amongB (nums s) c := by
  have e := (indexByte_mem s.data.toList c.toNat.toUInt8).2
  rw [Bool.eq_iff_iff, decide_eq_true_iff, e]
  unfold amongB nums
  rw [List.contains_iff_mem, List.mem_map]
  constructor
  · intro h
    refine ⟨_, h, ?_⟩
    simp
    omega
  · rintro ⟨b, hb, rfl⟩
    simpa using hb

set_option maxHeartbeats 400000 in
theorem among1_any (s : ByteArray) (c : Int) (b1 : Nat) (w : World) (h0 : 0 ≤ c) (hc : c < 256) (h1 : w.heap[b1]? = some (.cells #[.string s] 9 (0, 0))) :
    Calls Tryz.prog 102 #[.int .u8 c, .pointer (some ⟨b1, 0, none⟩)] w fun e w' => e = .returned (.bool (amongB (nums s) c)) ∧ w = w' := by
  have c1 := blk_cell h1 0
  have HE := Lib.hid (among_mem s c h0 hc)
  have hlo := (indexByte_mem s.data.toList c.toNat.toUInt8).1
  clear h1
  go_enter Tryz.func102, Tryz.ntmps102
  go_wp2_with (go_at_call 97; refine (Tryz.strings_IndexByte _ _ _).mono ?_; rintro e w' ⟨rfl, rfl⟩)
  go_ret
  exact ⟨ret_bool HE.out, rfl⟩

set_option maxHeartbeats 400000 in
theorem among_any (s : ByteArray) (w : World) :
    Calls Tryz.prog 77 #[.string s] w (KindP (amongB (nums s)) w) := by
  have hmf : ∀ (fn : Fn) (first cp : Array Value) (w : World), (Instr.makeFunc fn first cp).run Tryz.prog w = .ok (.func fn first cp) w := fun _ _ _ _ => rfl
  go_enter Tryz.func77, Tryz.ntmps77
  go_wp2_with fail
  go_ret
  have hn1 := heap_alloc_new w (.cells #[.string s] 9)
  refine ⟨_, rfl, ⟨_, _, [(w.heap.size, .cells #[.string s] 9 (0, 0))], rfl, enters_of Tryz.func102 (by kernel_rfl) rfl, ?_, ?_, ?_⟩, ?_⟩
  · intro x hx
    simp at hx
    subst hx
    exact hn1
  · intro x hx
    simp at hx
    subst hx
    simp
  · intro w' hS c h0 h1
    exact among1_any s c _ w' h0 h1 (hS (_, _) (by simp))
  · exact ((Mod.refl [] w).alloc _).toBelow (Nat.le_refl _) (by simp)

/-- kinds in a row -/
def Kds (lo hi : Nat) (w : World) (vs : List Value) (ps : List (Int → Bool)) : Prop := vs.length = ps.length ∧ ∀ i, i < vs.length → Kd lo hi w (vs.getD i .nilFunc) (ps.getD i fun _ => false)
/-- none of the first k -/
def NoneB (ps : List (Int → Bool)) (c : Int) (k : Nat) : Prop := ∀ i, i < k → (ps.getD i fun _ => false) c = false
theorem NoneB.step {ps : List (Int → Bool)} {c : Int} {k : Nat} (h : NoneB ps c k) (hk : (ps.getD k fun _ => false) c = false) : NoneB ps c (k + 1) := fun i hi => by
  by_cases e : i = k
  · subst e; exact hk
  · exact h i (by omega)
def anyB (ps : List (Int → Bool)) (c : Int) : Bool := ps.any fun p => p c
theorem anyB_none {ps : List (Int → Bool)} {c : Int} {k : Nat} (h : NoneB ps c k) (hk : ps.length ≤ k) : anyB ps c = false := by
  unfold anyB
  rw [List.any_eq_false]
  intro p hp
  obtain ⟨i, hi, rfl⟩ := List.getElem_of_mem hp
  have := h i (by omega)
  simpa [List.getD, hi] using this
theorem anyB_some {ps : List (Int → Bool)} {c : Int} {k : Nat} (hk : k < ps.length) (h : (ps.getD k fun _ => false) c = true) : anyB ps c = true := by
  unfold anyB
  rw [List.any_eq_true]
  refine ⟨ps[k], List.getElem_mem hk, ?_⟩
  simpa [List.getD, hk] using h

set_option maxHeartbeats 1000000 in
theorem either1_any (lo hi : Nat) (vs : List Value) (ps : List (Int → Bool)) (c : Int) (b1 b2 : Nat) (w : World) (h0 : 0 ≤ c) (hc : c < 256) (hl : vs.length ≤ 1000)
    (h1 : w.heap[b1]? = some (.cells #[.slice (some ⟨b2, 0, none⟩) vs.length vs.length] 124 (0, 0))) (h2 : w.heap[b2]? = some (.cells vs.toArray 83 (0, 0))) (hk : Kds lo hi w vs ps) :
    Calls Tryz.prog 131 #[.int .u8 c, .pointer (some ⟨b1, 0, none⟩)] w fun e w' => e = .returned (.bool (anyB ps c)) ∧ w = w' := by
  have c1 := blk_cell h1 0
  have H2 := Lib.hid h2
  have HK := Lib.hid hk
  clear h1 h2 hk
  go_enter Tryz.func131, Tryz.ntmps131
  go_wp2_with fail
  go_loop [8, 5] (fun i _ => ∃ k : Nat, i = .int .i64 k ∧ k ≤ vs.length ∧ NoneB ps c k) (fun i _ => (vs.length - (intOf i)).toNat)
  case atStart => exact ⟨0, rfl, Nat.zero_le _, fun i hi => by omega⟩
  case round =>
    obtain ⟨k, rfl, hkl, hno⟩ := hrel
    have HN := Lib.hid hno
    clear hno
    by_cases hlt : k < vs.length
    · obtain ⟨f, caps, S, hv, hent, hS, hW, hC⟩ := HK.out.2 k hlt
      have hcell : w.cell? ⟨b2, k, none⟩ = some (.func (.func f) #[] caps) := by
        rw [← hv, blk_cell H2.out k]
        simp [List.getD, hlt]
      have HC := Lib.hid (hC w hS c h0 hc)
      have hent' : ∀ args w, (callFunc f args).run Tryz.prog w = .ok (.enter f args) w := hent
      clear hv hS hW hC hent
      generalize hpk : (ps.getD k fun _ => false) c = q at HC
      have HQ := Lib.hid hpk
      clear hpk
      cases q
      · go_wp2_with ((with_reducible refine HC.out.mono ?_); rintro e w1 ⟨rfl, rfl⟩)
        clear hent'
        go_round
        case rel => exact ⟨k + 1, by go_num, by omega, HN.out.step HQ.out⟩
        case measure => simp [intOf]; omega
      · go_wp2_with ((with_reducible refine HC.out.mono ?_); rintro e w1 ⟨rfl, rfl⟩)
        go_ret
        exact ⟨ret_bool (anyB_some (by rw [← HK.out.1]; exact hlt) HQ.out).symm, rfl⟩
    · go_wp2_with fail
      go_ret
      exact ⟨ret_bool (anyB_none HN.out (by rw [← HK.out.1]; omega)).symm, rfl⟩
end Go.Proofs.YthcgnnhfkejglaaGreatDoor

