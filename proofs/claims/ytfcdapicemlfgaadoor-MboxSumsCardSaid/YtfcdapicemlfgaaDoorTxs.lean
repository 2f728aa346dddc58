/- Texts in memory: a row of strings. No program is named here. -/
import Derived.Test.YtfcdapicemlfgaaDoorStr
namespace Go.Proofs.YtfcdapicemlfgaaDoor
open Go.ChangeShapes Go.WideShapes Go.ChangeAt Go.RowKit
set_option linter.unusedVariables false
set_option linter.unusedSimpArgs false

abbrev txs (L : List (List Int)) : List Value := L.map fun l => Value.string (strOfNums l)
/-- at the address a stand the texts L -/
def CellsS (w : World) (a : Option Addr) (L : List (List Int)) : Prop :=
  (∀ l ∈ L, Bytes l) ∧ (L = [] ∨ ∃ b o, a = some ⟨b, o, none⟩ ∧ ∀ i, i < L.length → w.cell? ⟨b, o + i, none⟩ = some (.string (strOfNums (L.getD i []))))
theorem CellsS.nil (w : World) (a : Option Addr) : CellsS w a [] := ⟨fun _ h => (by cases h), .inl rfl⟩
theorem CellsS.mod {F : List Nat} {w w' : World} {a : Option Addr} {L : List (List Int)} (hm : Mod F w w') (h : CellsS w a L) (hp : ∀ x, a = some x → x.block ∉ F) : CellsS w' a L := by
  refine ⟨h.1, ?_⟩
  rcases h.2 with h1 | ⟨b, o, rfl, hc⟩
  · exact .inl h1
  · exact .inr ⟨b, o, rfl, fun i hi => hm.cell (hc i hi) (hp ⟨b, o, none⟩ rfl)⟩
theorem CellsS.quiet {w w' : World} {a : Option Addr} {L : List (List Int)} (h : CellsS w a L) (hm : Mod [] w w') : CellsS w' a L := h.mod hm (by simp)
theorem CellsS.at {w : World} {b o : Nat} {L : List (List Int)} (h : CellsS w (some ⟨b, o, none⟩) L) (i : Nat) (hi : i < L.length) : w.cell? ⟨b, o + i, none⟩ = some (.string (strOfNums (L.getD i []))) := by
  rcases h.2 with rfl | ⟨b', o', he, hc⟩
  · simp at hi
  · simp only [Option.some.injEq, Addr.mk.injEq, and_true] at he
    obtain ⟨rfl, rfl⟩ := he
    exact hc i hi
theorem CellsS.addr {w : World} {a : Option Addr} {L : List (List Int)} (h : CellsS w a L) (hl : 0 < L.length) : ∃ b o, a = some ⟨b, o, none⟩ ∧ b < w.heap.size := by
  rcases h.2 with rfl | ⟨b, o, rfl, hc⟩
  · simp at hl
  · exact ⟨b, o, rfl, World.block_lt_of_cell? w _ (hc 0 hl)⟩
theorem CellsS.byt {w : World} {a : Option Addr} {L : List (List Int)} (h : CellsS w a L) (i : Nat) : Bytes (L.getD i []) := by
  by_cases hi : i < L.length
  · have e : L.getD i [] = L[i] := by simp [List.getD, hi]
    rw [e]; exact h.1 _ (List.getElem_mem hi)
  · have e : L.getD i [] = [] := by simp [List.getD, Nat.le_of_not_lt hi]
    rw [e]; exact Bytes.nil
theorem CellsS.ofOwns {w : World} {base : Nat} {e : TypeId} {a : Option Addr} {n cap : Nat} {L : List (List Int)} (hb : ∀ l ∈ L, Bytes l) (h : w.ownsRow base e 1 (.slice a n cap) n (txs L)) : CellsS w a L := by
  refine ⟨hb, ?_⟩
  have hl : L.length = n := by simpa using h.1
  rcases h.2 with ⟨he, hn⟩ | ⟨g, c, cur, hv, _⟩
  · left; exact List.eq_nil_of_length_eq_zero (by omega)
  · simp only [Value.slice.injEq] at hv
    obtain ⟨rfl, _, rfl⟩ := hv
    refine .inr ⟨g, 0, rfl, fun i hi => ?_⟩
    rw [Nat.zero_add, h.cellAt i (by omega)]
    simp [List.getD, hi]
theorem getDL_mem {L : List (List Int)} {i : Nat} (hi : i < L.length) : L.getD i [] ∈ L := by
  have e : L.getD i [] = L[i] := by simp [List.getD, hi]
  rw [e]; exact List.getElem_mem hi
theorem getDL_len {L : List (List Int)} {m : Nat} (h : ∀ l ∈ L, l.length ≤ m) (i : Nat) : (L.getD i []).length ≤ m := by
  by_cases hi : i < L.length
  · exact h _ (getDL_mem hi)
  · have e : L.getD i [] = [] := by simp [List.getD, Nat.le_of_not_lt hi]
    rw [e]; simp
theorem takeL_succ (L : List (List Int)) (k : Nat) (h : k < L.length) : L.take (k + 1) = L.take k ++ [L.getD k []] := by
  rw [List.take_succ_eq_append_getElem h]; simp [List.getD, h]
theorem dropL_at {L : List (List Int)} {j : Nat} (h : j < L.length) : L.drop j = L.getD j [] :: L.drop (j + 1) := by
  rw [List.drop_eq_getElem_cons h]; simp [List.getD, h]
theorem allL_no {p : List Int → Bool} {L : List (List Int)} {k : Nat} (hk : k < L.length) (hb : p (L.getD k []) = false) : L.all p = false := by
  rw [List.all_eq_false]
  exact ⟨L.getD k [], getDL_mem hk, by rw [hb]; simp⟩
theorem allL_step {p : List Int → Bool} {L : List (List Int)} {k : Nat} (h : (L.take k).all p = true) (hk : k < L.length) (hb : p (L.getD k []) = true) : (L.take (k + 1)).all p = true := by
  rw [takeL_succ L k hk, List.all_append, h]; simp only [List.all_cons, List.all_nil, hb]; rfl
/-- texts as what is appended -/
theorem Src.ofTexts {P : Program} {w : World} {a : Option Addr} {L : List (List Int)} (h : CellsS w a L) {tx e : TypeId} (hk : P.underlying tx = some (.slice e)) (n cap : Nat) (hn : n = L.length) : Src P 1 tx (.slice a n cap) n (txs L) w := by
  subst hn
  have h1 : ∀ u ∈ txs L, u.oneCell' = true := by
    intro u hu
    obtain ⟨l, _, rfl⟩ := List.mem_map.1 hu
    rfl
  rcases h.2 with rfl | ⟨b, o, rfl, hc⟩
  · cases a with
    | none => exact Src.ofNil w hk cap
    | some x => exact Src.ofSlice w hk x 0 cap [] (by simp) (by intro j u hu; simp at hu) (fun _ h => by cases h)
  · refine Src.ofSlice w hk _ _ _ (txs L) (by simp) ?_ h1
    intro j u hu
    have hj : j < L.length := by
      have := (List.getElem?_eq_some_iff.1 hu).1
      simpa using this
    rw [Addr.add_lit, hc j hj]
    simp [hj] at hu
    subst hu
    simp [List.getD, hj]
/-- where the i-th of a slice lies, whatever is known of its address -/
theorem ixa {P : Program} (T e : TypeId) (hT : P.underlying T = some (.slice e)) (m : Nat) (hz : ∀ w, (Go.sizeOf e).run P w = .ok m w) (a : Option Addr) (b o n cap i : Nat) (ha : a = some ⟨b, o, none⟩) (hi : i < n) : ∀ W, (Instr.indexAt T (.slice a n cap) (.int .i64 i)).run P W = .ok (.pointer (some ⟨b, o + i * m, none⟩)) W := fun W => by
  subst ha
  have ht' : P.underlying T = some (.slice (P.elem T)) := by simp [Program.elem, hT]
  have he : P.elem T = e := by simp [Program.elem, hT]
  rw [run_indexAt_slice (h := ht'), if_pos ⟨by omega, by omega⟩, he, hz]
  simp [Result.andThen, Addr.add_lit]
end Go.Proofs.YtfcdapicemlfgaaDoor
