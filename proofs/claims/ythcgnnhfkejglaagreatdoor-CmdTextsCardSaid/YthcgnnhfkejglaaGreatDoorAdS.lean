import Derived.Test.YthcgnnhfkejglaaGreatDoorAdR
/- small, lowered. -/
namespace Go.Proofs.YthcgnnhfkejglaaGreatDoor
open Go.Shelf Go.ChangeShapes Go.WideShapes Go.ChangeAt Go.RowKit
set_option linter.unusedVariables false
set_option linter.unusedSimpArgs false

/-- a row of bytes that a text was turned into -/
def RowF (w : World) (g cap : Nat) (l : List Int) : Prop := ∃ cur, w.heap[g]? = some (.cells cur 5 (cap, cap + 1)) ∧ cur.size = cap ∧ l.length ≤ cap ∧ cur.toList.take l.length = u8s l
theorem RowF.cell {w : World} {g cap : Nat} {l : List Int} (h : RowF w g cap l) (i : Nat) (hi : i < l.length) : w.cell? ⟨g, i, none⟩ = some (.int .u8 (l.getD i 0)) := by
  obtain ⟨cur, h1, h2, h3, h4⟩ := h
  rw [cell_of_row w g i cur _ _ h1]
  have h5 : cur[i]? = (cur.toList.take l.length)[i]? := by rw [List.getElem?_take, if_pos hi]; simp
  rw [h5, h4]
  simp [List.getD, hi]
theorem RowF.free {w : World} {g cap : Nat} {l : List Int} (h : RowF w g cap l) (i : Nat) (hi : i < l.length) : w.frozen? ⟨g, i, none⟩ = false := by
  obtain ⟨cur, h1, h2, h3, h4⟩ := h
  simp [World.frozen?, h1]
  omega
theorem RowF.set {w : World} {g cap : Nat} {l : List Int} (h : RowF w g cap l) (i : Nat) (x : Int) : RowF (w.setCell ⟨g, i, none⟩ (.int .u8 x)) g cap (l.set i x) := by
  obtain ⟨cur, h1, h2, h3, h4⟩ := h
  refine ⟨cur.setIfInBounds i (.int .u8 x), by simp [World.setCell, Array.getElem?_modify, h1], by simpa using h2, by simpa using h3, ?_⟩
  rw [Array.toList_setIfInBounds, List.length_set, List.take_set, h4, u8s_set]
theorem RowF.mod {F : List Nat} {w w' : World} {g cap : Nat} {l : List Int} (h : RowF w g cap l) (hm : Mod F w w') (hF : g ∉ F) : RowF w' g cap l := by
  obtain ⟨cur, h1, h2⟩ := h
  exact ⟨cur, hm.row h1 hF, h2⟩
theorem RowF.cells8 {w : World} {g cap : Nat} {l : List Int} (h : RowF w g cap l) (hb : Bytes l) : Cells8 w (some ⟨g, 0, none⟩) l :=
  ⟨hb, .inr ⟨g, 0, rfl, fun i hi => by rw [Nat.zero_add]; exact h.cell i hi⟩⟩
theorem conv_row (w : World) (s : ByteArray) : ∃ cap w', (convert 9 51 (.string s)).run Tryz.prog w = .ok (.slice (some ⟨w.heap.size, 0, none⟩) s.size cap) w' ∧ RowF w' w.heap.size cap (nums s) ∧ Mod [] w w' ∧ w'.heap.size = w.heap.size + 1 ∧ s.size ≤ cap := by
  refine ⟨_, _, run_bytes_of_string w 9 51 5 s Tryz.underlying9 Tryz.underlying51 Tryz.underlying5, ?_, ((Mod.refl [] w).drew).alloc _, by simp, grownCap_ge w s.size 0 _⟩
  have hcap := grownCap_ge w s.size 0 5
  have hsz : s.data.size = s.size := rfl
  have hbs : (bytesRow s (grownCap w s.size 0 5)).size = grownCap w s.size 0 5 := by simp [bytesRow]; omega
  have hrow := heap_alloc_new w.drew (.cells (bytesRow s (grownCap w s.size 0 5)) 5 ((bytesRow s (grownCap w s.size 0 5)).size, (bytesRow s (grownCap w s.size 0 5)).size + 1))
  refine ⟨bytesRow s (grownCap w s.size 0 5), ?_, hbs, by rw [nums_length]; exact hcap, ?_⟩
  · have e : (w.drew).heap.size = w.heap.size := rfl
    rw [e] at hrow
    rw [hrow, hbs]
  · rw [nums_length]
    have : s.size = (s.data.map (fun b => Value.int .u8 (b.toNat : Int))).toList.length := by simp
    unfold bytesRow
    rw [Array.toList_append, this, List.take_left]
    simp [nums]

/-- the first k bytes small -/
def lowK (l : List Int) (k : Nat) : List Int := (l.take k).map lowC ++ l.drop k
theorem lowK_len (l : List Int) (k : Nat) (hk : k ≤ l.length) : (lowK l k).length = l.length := by simp [lowK]; omega
theorem lowK_getD {l : List Int} {k : Nat} (h : k < l.length) : (lowK l k).getD k 0 = l.getD k 0 := by
  unfold lowK
  simp only [List.getD]
  rw [List.getElem?_append_right (by simp; omega)]
  simp [show min k l.length = k by omega]
theorem lowK_step {l : List Int} {k : Nat} (h : k < l.length) : lowK l (k + 1) = (lowK l k).set k (lowC (l.getD k 0)) := by
  have hl : ((l.take k).map lowC).length = k := by simp; omega
  unfold lowK
  rw [take_succ_at l k h, List.map_append, List.set_append_right k _ (by omega), hl, Nat.sub_self]
  rw [show l.drop k = l.getD k 0 :: l.drop (k + 1) from drop_at h]
  simp
theorem lowK_same {l : List Int} {k : Nat} (h : k < l.length) (hc : lowC (l.getD k 0) = l.getD k 0) : lowK l (k + 1) = lowK l k := by
  rw [lowK_step h, hc, ← lowK_getD h]
  have hl : k < (lowK l k).length := by rw [lowK_len l k (by omega)]; exact h
  simp [List.getD, hl]
theorem lowC_bytes {c : Int} (h : 0 ≤ c ∧ c < 256) : 0 ≤ lowC c ∧ lowC c < 256 := by unfold lowC; split <;> omega
theorem lowL_bytes {l : List Int} (h : Bytes l) : Bytes (lowL l) := by
  intro x hx
  obtain ⟨c, hc, rfl⟩ := List.mem_map.1 hx
  exact lowC_bytes (h c hc)

end Go.Proofs.YthcgnnhfkejglaaGreatDoor

