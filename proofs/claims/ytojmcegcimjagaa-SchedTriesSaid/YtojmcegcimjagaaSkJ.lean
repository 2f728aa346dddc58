/- Sched: jobs in memory; the earliest time, as mathematics. -/
import Derived.Test.YtojmcegcimjagaaSkD
namespace Go.Proofs.Ytojmcegcimjagaa
open Go.ChangeShapes Go.WideShapes Go.ChangeAt Go.RowKit
set_option linter.unusedVariables false
set_option linter.unusedSimpArgs false

instance : Inhabited TSt := ⟨⟨0, 0, 0, 0⟩⟩
/-- at the address a stand elements of k cells each -/
def CellsK {α : Type} (k : Nat) (enc : α → Array Value) (w : World) (a : Option Addr) (xs : List α) : Prop :=
  xs = [] ∨ ∃ b o, a = some ⟨b, o, none⟩ ∧ ∀ i (h : i < xs.length) (j : Nat), j < k → w.cell? ⟨b, o + i * k + j, none⟩ = (enc xs[i])[j]?
section
variable {α : Type} {k : Nat} {enc : α → Array Value} {w w' : World} {a : Option Addr} {xs : List α}
theorem CellsK.nil : CellsK k enc w a ([] : List α) := .inl rfl
theorem CellsK.mod {F : List Nat} (h : CellsK k enc w a xs) (hk : ∀ x, (enc x).size = k) (hm : Mod F w w') (hp : ∀ x, a = some x → x.block ∉ F) : CellsK k enc w' a xs := by
  rcases h with h | ⟨b, o, rfl, hc⟩
  · exact .inl h
  · refine .inr ⟨b, o, rfl, fun i hi j hj => ?_⟩
    have h1 := hc i hi j hj
    have h2 : j < (enc xs[i]).size := by rw [hk]; exact hj
    rw [Array.getElem?_eq_getElem h2] at h1 ⊢
    exact hm.cell h1 (hp ⟨b, o, none⟩ rfl)
theorem CellsK.quiet (h : CellsK k enc w a xs) (hk : ∀ x, (enc x).size = k) (hm : Mod [] w w') : CellsK k enc w' a xs := h.mod hk hm (by simp)
theorem CellsK.addr (h : CellsK k enc w a xs) (hk : ∀ x, (enc x).size = k) (h0 : 0 < k) (hl : 0 < xs.length) : ∃ b o, a = some ⟨b, o, none⟩ ∧ b < w.heap.size := by
  rcases h with rfl | ⟨b, o, rfl, hc⟩
  · simp at hl
  · have h1 := hc 0 hl 0 h0
    have h2 : 0 < (enc xs[0]).size := by rw [hk]; exact h0
    rw [Array.getElem?_eq_getElem h2] at h1
    exact ⟨b, o, rfl, World.block_lt_of_cell? w _ h1⟩
theorem CellsK.at {b o : Nat} (h : CellsK k enc w (some ⟨b, o, none⟩) xs) (i : Nat) (hi : i < xs.length) (j : Nat) (hj : j < k) : w.cell? ⟨b, o + i * k + j, none⟩ = (enc xs[i])[j]? := by
  rcases h with rfl | ⟨b', o', he, hc⟩
  · simp at hi
  · simp only [Option.some.injEq, Addr.mk.injEq, and_true] at he
    obtain ⟨rfl, rfl⟩ := he
    exact hc i hi j hj
end
theorem stC_size (s : TSt) : (stC s).size = 4 := rfl
/-- a job's cells: of its rows only the states matter here -/
structure Jq where
  id : Int
  arr : Int
  fl : ByteArray
  fd : ByteArray
  ta : Option Addr
  tn : Nat
  tc : Nat
  sa : Option Addr
  sc : Nat
  sts : List TSt
  ba : Option Addr
  bn : Nat
  bc : Nat
instance : Inhabited Jq := ⟨⟨0, 0, ⟨#[]⟩, ⟨#[]⟩, none, 0, 0, none, 0, [], none, 0, 0⟩⟩
abbrev jqC (j : Jq) : Array Value := #[.int .i64 j.id, .int .i64 j.arr, .string j.fl, .string j.fd, .slice j.ta j.tn j.tc, .slice j.sa j.sts.length j.sc, .slice j.ba j.bn j.bc]
theorem jqC_size (j : Jq) : (jqC j).size = 7 := rfl
/-- jobs that came in -/
structure InJobs (w : World) (a : Option Addr) (js : List Jq) : Prop where
  row : CellsK 7 jqC w a js
  sts : ∀ j ∈ js, CellsK 4 stC w j.sa j.sts ∧ j.sts.length ≤ 9223372036854775807
theorem InJobs.quiet {w w' : World} {a : Option Addr} {js : List Jq} (h : InJobs w a js) (hm : Mod [] w w') : InJobs w' a js := ⟨h.row.quiet jqC_size hm, fun j hj => ⟨(h.sts j hj).1.quiet stC_size hm, (h.sts j hj).2⟩⟩
/-- the cells of the k-th job -/
theorem CellsK.row7 {w : World} {b o : Nat} {xs : List Jq} (h : CellsK 7 jqC w (some ⟨b, o, none⟩) xs) (i : Nat) (hi : i < xs.length) :
    w.cell? ⟨b, o + i * 7, none⟩ = some (.int .i64 xs[i].id) ∧ w.cell? ⟨b, o + i * 7 + 1, none⟩ = some (.int .i64 xs[i].arr) ∧ w.cell? ⟨b, o + i * 7 + 2, none⟩ = some (.string xs[i].fl) ∧ w.cell? ⟨b, o + i * 7 + 3, none⟩ = some (.string xs[i].fd) ∧ w.cell? ⟨b, o + i * 7 + 4, none⟩ = some (.slice xs[i].ta xs[i].tn xs[i].tc) ∧ w.cell? ⟨b, o + i * 7 + 5, none⟩ = some (.slice xs[i].sa xs[i].sts.length xs[i].sc) ∧ w.cell? ⟨b, o + i * 7 + 6, none⟩ = some (.slice xs[i].ba xs[i].bn xs[i].bc) :=
  ⟨h.at i hi 0 (by decide), h.at i hi 1 (by decide), h.at i hi 2 (by decide), h.at i hi 3 (by decide), h.at i hi 4 (by decide), h.at i hi 5 (by decide), h.at i hi 6 (by decide)⟩
theorem CellsK.row4 {w : World} {b o : Nat} {xs : List TSt} (h : CellsK 4 stC w (some ⟨b, o, none⟩) xs) (i : Nat) (hi : i < xs.length) :
    w.cell? ⟨b, o + i * 4, none⟩ = some (.int .i64 xs[i].st) ∧ w.cell? ⟨b, o + i * 4 + 1, none⟩ = some (.int .i64 xs[i].tries) ∧ w.cell? ⟨b, o + i * 4 + 2, none⟩ = some (.int .i64 xs[i].due) ∧ w.cell? ⟨b, o + i * 4 + 3, none⟩ = some (.int .i64 xs[i].code) :=
  ⟨h.at i hi 0 (by decide), h.at i hi 1 (by decide), h.at i hi 2 (by decide), h.at i hi 3 (by decide)⟩
theorem sizeSt : ∀ w, (Go.sizeOf 26).run Try.prog w = .ok 4 w := Try.sizeOf26
theorem sizeJb : ∀ w, (Go.sizeOf 46).run Try.prog w = .ok 7 w := Try.sizeOf46
theorem jb_size : (Try.prog.info? 46).map (·.size) = some 7 := by kernel_rfl

/-- all states of the first jobs -/
def allS (js : List Jq) : List TSt := js.flatMap (·.sts)
theorem allS_nil : allS [] = [] := rfl
theorem allS_next {js : List Jq} {k : Nat} (h : k < js.length) : allS (js.take (k + 1)) = allS (js.take k) ++ js[k].sts := by
  unfold allS; rw [List.take_succ_eq_append_getElem h, List.flatMap_append]; simp only [List.flatMap_cons, List.flatMap_nil, List.append_nil]
def wsB (s : TSt) : Bool := s.st == 0
/-- the earliest time, behind one state more -/
def erS (acc : Int × Bool) (s : TSt) : Int × Bool := if wsB s && (!acc.2 || decide (s.due < acc.1)) then (s.due, true) else acc
def erL (l : List TSt) : Int × Bool := l.foldl erS (0, false)
theorem erL_snoc (l : List TSt) (s : TSt) : erL (l ++ [s]) = erS (erL l) s := by simp [erL]
/-- what is known of the earliest time of the states p -/
structure Er (p : List TSt) (r : Int × Bool) : Prop where
  some : r.2 = p.any wsB
  zero : r.2 = false → r.1 = 0
  least : ∀ s ∈ p, wsB s = true → r.1 ≤ s.due
  there : r.2 = true → ∃ s ∈ p, wsB s = true ∧ s.due = r.1
theorem Er.next {p : List TSt} {r : Int × Bool} (h : Er p r) (s : TSt) : Er (p ++ [s]) (erS r s) := by
  obtain ⟨at_, so⟩ := r
  obtain ⟨h1, h2, h3, h4⟩ := h
  dsimp only at h1 h2 h3 h4
  unfold erS
  cases hw : wsB s
  · simp only [Bool.false_and, Bool.false_eq_true, if_false]
    refine ⟨by simp [h1, hw], h2, fun x hx hxw => ?_, fun hs => ?_⟩
    · rcases List.mem_append.1 hx with hx | hx
      · exact h3 x hx hxw
      · simp at hx; subst hx; rw [hw] at hxw; cases hxw
    · obtain ⟨x, hx, h⟩ := h4 hs
      exact ⟨x, List.mem_append_left _ hx, h⟩
  · simp only [Bool.true_and]
    cases so
    · simp only [Bool.not_false, Bool.true_or, if_true]
      refine ⟨by simp [hw], by simp, fun x hx hxw => ?_, fun _ => ⟨s, by simp, hw, rfl⟩⟩
      rcases List.mem_append.1 hx with hx | hx
      · have : p.any wsB = true := List.any_eq_true.2 ⟨x, hx, hxw⟩
        rw [← h1] at this; cases this
      · simp at hx; subst hx; exact Int.le_refl _
    · simp only [Bool.not_true, Bool.false_or]
      by_cases hl : s.due < at_
      · simp only [hl, decide_true, if_true]
        refine ⟨by simp [hw], by simp, fun x hx hxw => ?_, fun _ => ⟨s, by simp, hw, rfl⟩⟩
        rcases List.mem_append.1 hx with hx | hx
        · have := h3 x hx hxw; dsimp only; omega
        · simp at hx; subst hx; exact Int.le_refl _
      · simp only [hl, decide_false, Bool.false_eq_true, if_false]
        refine ⟨by simp [hw], by simp, fun x hx hxw => ?_, fun hs => ?_⟩
        · rcases List.mem_append.1 hx with hx | hx
          · exact h3 x hx hxw
          · simp at hx; subst hx; dsimp only; omega
        · obtain ⟨x, hx, h⟩ := h4 hs
          exact ⟨x, List.mem_append_left _ hx, h⟩
theorem Er.all : ∀ (l p : List TSt) (r : Int × Bool), Er p r → Er (p ++ l) (l.foldl erS r)
  | [], p, r, h => by simpa using h
  | s :: l, p, r, h => by
    have := Er.all l (p ++ [s]) (erS r s) (h.next s)
    simpa using this
theorem erL_er (l : List TSt) : Er l (erL l) := by
  have := Er.all l [] (0, false) (Er.mk rfl (fun _ => rfl) (fun s hs => by simp at hs) (fun h => by simp at h))
  simpa [erL] using this
/-- the law's count, and whether one is due just then -/
def cntW (p : List TSt) : Nat := p.countP wsB
def fndW (at_ : Int) (p : List TSt) : Bool := p.any fun s => wsB s && (s.due == at_)
theorem cntW_snoc (p : List TSt) (s : TSt) : cntW (p ++ [s]) = cntW p + if wsB s then 1 else 0 := by
  simp [cntW, List.countP_append, List.countP_cons]
theorem fndW_snoc (at_ : Int) (p : List TSt) (s : TSt) : fndW at_ (p ++ [s]) = (fndW at_ p || (wsB s && (s.due == at_))) := by simp [fndW]
theorem cntW_le (p : List TSt) : cntW p ≤ p.length := List.countP_le_length
theorem cntW_pos {l : List TSt} {at_ : Int} {so : Bool} (h : erL l = (at_, so)) : decide (0 < (cntW l : Int)) = so := by
  have he := (erL_er l).some
  rw [h] at he
  dsimp only at he
  rw [he, Bool.eq_iff_iff, decide_eq_true_iff, List.any_eq_true]
  constructor
  · intro h0
    obtain ⟨s, h1, h2⟩ := List.countP_pos_iff.1 (show 0 < l.countP wsB by unfold cntW at h0; omega)
    exact ⟨s, h1, h2⟩
  · rintro ⟨s, h1, h2⟩
    have := List.countP_pos_iff.2 ⟨s, h1, h2⟩
    unfold cntW; omega
theorem fndW_all {l : List TSt} {at_ : Int} {so : Bool} (h : erL l = (at_, so)) : fndW at_ l = so := by
  have he := erL_er l
  rw [h] at he
  cases so
  · have h1 := he.some
    dsimp only at h1
    unfold fndW
    rw [Bool.eq_false_iff]
    intro hx
    obtain ⟨s, hs, hw⟩ := List.any_eq_true.1 hx
    rw [Bool.and_eq_true] at hw
    have : l.any wsB = true := List.any_eq_true.2 ⟨s, hs, hw.1⟩
    rw [← h1] at this; cases this
  · obtain ⟨s, hs, hw, hd⟩ := he.there rfl
    unfold fndW
    refine List.any_eq_true.2 ⟨s, hs, ?_⟩
    dsimp only at hd
    rw [hw, hd]; simp
theorem erL_least {l : List TSt} {at_ : Int} {so : Bool} (h : erL l = (at_, so)) {s : TSt} (hs : s ∈ l) (hw : wsB s = true) : at_ ≤ s.due := by
  have he := (erL_er l).least s hs hw
  rw [h] at he; exact he
theorem erL_zero {l : List TSt} {at_ : Int} {so : Bool} (h : erL l = (at_, so)) : (so || (at_ == 0)) = true := by
  cases so
  · have := (erL_er l).zero (by rw [h]); rw [h] at this; dsimp only at this; rw [this]; rfl
  · rfl
end Go.Proofs.Ytojmcegcimjagaa
