/- Records: the reference's in, within, Same, bare. -/
import Derived.Test.YtfcdapicemlfgaaDoorRcC
import Derived.Laws.StructEq
namespace Go.Proofs.YtfcdapicemlfgaaDoor
open Go.ChangeShapes Go.WideShapes Go.ChangeAt Go.RowKit
set_option linter.unusedVariables false
set_option linter.unusedSimpArgs false

def inB (n lo hi : Int) : Bool := decide (lo ≤ n) && decide (n ≤ hi)
theorem out_in (f : Nat) (n : Int) : (!outB f n) = inB n (loF f) (hiF f) := by
  unfold outB inB
  rw [Bool.not_or]
  congr 1
  · rw [Bool.eq_iff_iff]; simp
  · rw [Bool.eq_iff_iff]; simp
theorem in_any (n lo hi : Int) (w : World) : Calls Tryd.prog 60 #[.int .i64 n, .int .i64 lo, .int .i64 hi] w fun e w' => e = .returned (.bool (inB n lo hi)) ∧ w = w' := by
  have H := Lib.hid (show inB n lo hi = (decide (lo ≤ n) && decide (n ≤ hi)) from rfl)
  go_enter Tryd.func60, Tryd.ntmps60
  go_wp2
  all_goals (go_ret; exact ⟨ret_bool (by rw [H.out]; first | (simp [*]; done) | (simp; intros; omega)), rfl⟩)
theorem fields1 (ns d : List Int) : fieldsOk ⟨1, ns, d⟩ = (inB (nth ns 0) 1 999 && (inB (nth ns 1) 1 2147483648 && (inB (nth ns 2) 1 2147483649 && inB (nth ns 3) 0 2147483648))) := by
  simp only [fieldsOk, toldL, reduceIte, List.all_cons, List.all_nil, Bool.and_true, out_in]; rfl
theorem fields2 (ns d : List Int) : fieldsOk ⟨2, ns, d⟩ = (inB (nth ns 4) 1 2147483648 && (inB (nth ns 5) 0 4503599627370496 && (inB (nth ns 6) 0 31 && (inB (nth ns 7) 1 2147483648 && (inB (nth ns 8) 0 32768 && inB (nth ns 9) 0 9007199254740992))))) := by
  simp only [fieldsOk, toldL, reduceIte, Int.reduceEq, List.all_cons, List.all_nil, Bool.and_true, out_in]; rfl
theorem fields3 (ns d : List Int) : fieldsOk ⟨3, ns, d⟩ = inB (nth ns 4) 1 2147483648 := by
  simp only [fieldsOk, toldL, reduceIte, Int.reduceEq, List.all_cons, List.all_nil, Bool.and_true, out_in]; rfl
theorem fields4 (ns d : List Int) : fieldsOk ⟨4, ns, d⟩ = (inB (nth ns 4) 1 2147483648 && inB (nth ns 6) 0 31) := by
  simp only [fieldsOk, toldL, reduceIte, Int.reduceEq, List.all_cons, List.all_nil, Bool.and_true, out_in]; rfl
theorem fields5 (ns d : List Int) : fieldsOk ⟨5, ns, d⟩ = inB (nth ns 2) 1 2147483649 := by
  simp only [fieldsOk, toldL, reduceIte, Int.reduceEq, List.all_cons, List.all_nil, Bool.and_true, out_in]; rfl
theorem fields6 (ns d : List Int) : fieldsOk ⟨6, ns, d⟩ = inB (nth ns 7) 1 2147483648 := by
  simp only [fieldsOk, toldL, reduceIte, Int.reduceEq, List.all_cons, List.all_nil, Bool.and_true, out_in]; rfl
set_option maxHeartbeats 4000000 in
theorem within_any (k : Int) (ns d : List Int) (hk : toldL k ≠ []) (pa : Option Addr) (pc : Nat) (w : World) :
    Calls Tryd.prog 42 #[.agg (recA ⟨k, ns, d⟩ pa pc)] w fun e w' => e = .returned (.bool (fieldsOk ⟨k, ns, d⟩)) ∧ Mod [] w w' := by
  have HIn := Lib.hid in_any
  generalize hl : d.length = n
  rcases kinds6 hk with rfl | rfl | rfl | rfl | rfl | rfl
  · rw [fields1]
    clear hl hk
    go_enter Tryd.func42, Tryd.ntmps42
    go_wp2_with (go_at_call 60; (refine (HIn.out _ _ _ _).mono ?_); rintro e w' ⟨rfl, rfl⟩)
    all_goals (go_ret; exact ⟨ret_bool (by simp [*]), (Mod.refl [] w).alloc _⟩)
  · rw [fields2]
    clear hl hk
    go_enter Tryd.func42, Tryd.ntmps42
    go_wp2_with (go_at_call 60; (refine (HIn.out _ _ _ _).mono ?_); rintro e w' ⟨rfl, rfl⟩)
    all_goals (go_ret; exact ⟨ret_bool (by simp [*]), (Mod.refl [] w).alloc _⟩)
  · rw [fields3]
    clear hl hk
    go_enter Tryd.func42, Tryd.ntmps42
    go_wp2_with (go_at_call 60; (refine (HIn.out _ _ _ _).mono ?_); rintro e w' ⟨rfl, rfl⟩)
    all_goals (go_ret; exact ⟨ret_bool (by simp [*]), (Mod.refl [] w).alloc _⟩)
  · rw [fields4]
    clear hl hk
    go_enter Tryd.func42, Tryd.ntmps42
    go_wp2_with (go_at_call 60; (refine (HIn.out _ _ _ _).mono ?_); rintro e w' ⟨rfl, rfl⟩)
    all_goals (go_ret; exact ⟨ret_bool (by simp [*]), (Mod.refl [] w).alloc _⟩)
  · rw [fields5]
    clear hl hk
    go_enter Tryd.func42, Tryd.ntmps42
    go_wp2_with (go_at_call 60; (refine (HIn.out _ _ _ _).mono ?_); rintro e w' ⟨rfl, rfl⟩)
    all_goals (go_ret; exact ⟨ret_bool (by simp [*]), (Mod.refl [] w).alloc _⟩)
  · rw [fields6]
    clear hl hk
    go_enter Tryd.func42, Tryd.ntmps42
    go_wp2_with (go_at_call 60; (refine (HIn.out _ _ _ _).mono ?_); rintro e w' ⟨rfl, rfl⟩)
    all_goals (go_ret; exact ⟨ret_bool (by simp [*]), (Mod.refl [] w).alloc _⟩)
/-- what a kind tells of ten numbers -/
def bareNs (k : Int) (ns : List Int) : List Int := (List.range 10).map fun f => if f ∈ toldL k then nth ns f else 0
def bareR (r : Rc) : Rc := ⟨r.kind, bareNs r.kind r.ns, if r.kind = 6 then r.data else []⟩
theorem bareNs_nth (k : Int) (ns : List Int) {f : Nat} (hf : f < 10) : nth (bareNs k ns) f = if f ∈ toldL k then nth ns f else 0 := by
  unfold bareNs
  conv => lhs; unfold nth
  simp [List.getD, hf]
  rfl
theorem bareNs_length (k : Int) (ns : List Int) : (bareNs k ns).length = 10 := by simp [bareNs]
def BareP (r : Rc) (w : World) (e : Ending) (w' : World) : Prop := ∃ pb pd, e = .returned (.agg (recA (bareR r) pb pd)) ∧ (Cells8 w pb (bareR r).data) ∧ Mod [] w w'
set_option maxHeartbeats 4000000 in
theorem bare_any (k : Int) (ns d : List Int) (hk : toldL k ≠ []) (pa : Option Addr) (pc : Nat) (w : World) (hc : Cells8 w pa d) :
    Calls Tryd.prog 43 #[.agg (recA ⟨k, ns, d⟩ pa pc)] w (BareP ⟨k, ns, d⟩ w) := by
  have HC := Lib.hid hc
  clear hc
  rcases kinds6 hk with rfl | rfl | rfl | rfl | rfl | rfl
  · have HP : Hid (∀ w', Mod [] w w' → BareP ⟨1, ns, d⟩ w (.returned (.agg #[.int .i64 1, .int .i64 (nth ns 0), .int .i64 (nth ns 1), .int .i64 (nth ns 2), .int .i64 (nth ns 3), .int .i64 0, .int .i64 0, .int .i64 0, .int .i64 0, .int .i64 0, .int .i64 0, .slice none 0 0])) w') := Lib.hid fun w' hm => ⟨none, 0, rfl, Cells8.nil _ _, hm⟩
    have HR : Hid (((w.alloc (.cells (recA ⟨1, ns, d⟩ pa pc) 35)).alloc (.cells #[.int .i64 1, .int .i64 (nth ns 0), .int .i64 (nth ns 1), .int .i64 (nth ns 2), .int .i64 (nth ns 3), .int .i64 0, .int .i64 0, .int .i64 0, .int .i64 0, .int .i64 0, .int .i64 0, .slice none 0 0] 35)).heap[w.heap.size + 1]? = some (.cells #[.int .i64 1, .int .i64 (nth ns 0), .int .i64 (nth ns 1), .int .i64 (nth ns 2), .int .i64 (nth ns 3), .int .i64 0, .int .i64 0, .int .i64 0, .int .i64 0, .int .i64 0, .int .i64 0, .slice none 0 0] 35 (0, 0))) := Lib.hid (by have h := heap_alloc_new (w.alloc (.cells (recA ⟨1, ns, d⟩ pa pc) 35)) (.cells #[.int .i64 1, .int .i64 (nth ns 0), .int .i64 (nth ns 1), .int .i64 (nth ns 2), .int .i64 (nth ns 3), .int .i64 0, .int .i64 0, .int .i64 0, .int .i64 0, .int .i64 0, .int .i64 0, .slice none 0 0] 35); simpa using h)
    go_enter Tryd.func43, Tryd.ntmps43
    go_wp2
    exact bodyPost_ret (v := .agg #[.int .i64 1, .int .i64 (nth ns 0), .int .i64 (nth ns 1), .int .i64 (nth ns 2), .int .i64 (nth ns 3), .int .i64 0, .int .i64 0, .int .i64 0, .int .i64 0, .int .i64 0, .int .i64 0, .slice none 0 0]) (results_cell_row rfl _ _ (w.heap.size + 1) 35 #[.int .i64 1, .int .i64 (nth ns 0), .int .i64 (nth ns 1), .int .i64 (nth ns 2), .int .i64 (nth ns 3), .int .i64 0, .int .i64 0, .int .i64 0, .int .i64 0, .int .i64 0, .int .i64 0, .slice none 0 0] (0, 0) _ rfl HR.out Tryd.underlying35 rfl rec_size) rfl (HP.out _ (((Mod.refl [] w).alloc _).alloc _))
  · have HP : Hid (∀ w', Mod [] w w' → BareP ⟨2, ns, d⟩ w (.returned (.agg #[.int .i64 2, .int .i64 0, .int .i64 0, .int .i64 0, .int .i64 0, .int .i64 (nth ns 4), .int .i64 (nth ns 5), .int .i64 (nth ns 6), .int .i64 (nth ns 7), .int .i64 (nth ns 8), .int .i64 (nth ns 9), .slice none 0 0])) w') := Lib.hid fun w' hm => ⟨none, 0, rfl, Cells8.nil _ _, hm⟩
    have HR : Hid (((w.alloc (.cells (recA ⟨2, ns, d⟩ pa pc) 35)).alloc (.cells #[.int .i64 2, .int .i64 0, .int .i64 0, .int .i64 0, .int .i64 0, .int .i64 (nth ns 4), .int .i64 (nth ns 5), .int .i64 (nth ns 6), .int .i64 (nth ns 7), .int .i64 (nth ns 8), .int .i64 (nth ns 9), .slice none 0 0] 35)).heap[w.heap.size + 1]? = some (.cells #[.int .i64 2, .int .i64 0, .int .i64 0, .int .i64 0, .int .i64 0, .int .i64 (nth ns 4), .int .i64 (nth ns 5), .int .i64 (nth ns 6), .int .i64 (nth ns 7), .int .i64 (nth ns 8), .int .i64 (nth ns 9), .slice none 0 0] 35 (0, 0))) := Lib.hid (by have h := heap_alloc_new (w.alloc (.cells (recA ⟨2, ns, d⟩ pa pc) 35)) (.cells #[.int .i64 2, .int .i64 0, .int .i64 0, .int .i64 0, .int .i64 0, .int .i64 (nth ns 4), .int .i64 (nth ns 5), .int .i64 (nth ns 6), .int .i64 (nth ns 7), .int .i64 (nth ns 8), .int .i64 (nth ns 9), .slice none 0 0] 35); simpa using h)
    go_enter Tryd.func43, Tryd.ntmps43
    go_wp2
    exact bodyPost_ret (v := .agg #[.int .i64 2, .int .i64 0, .int .i64 0, .int .i64 0, .int .i64 0, .int .i64 (nth ns 4), .int .i64 (nth ns 5), .int .i64 (nth ns 6), .int .i64 (nth ns 7), .int .i64 (nth ns 8), .int .i64 (nth ns 9), .slice none 0 0]) (results_cell_row rfl _ _ (w.heap.size + 1) 35 #[.int .i64 2, .int .i64 0, .int .i64 0, .int .i64 0, .int .i64 0, .int .i64 (nth ns 4), .int .i64 (nth ns 5), .int .i64 (nth ns 6), .int .i64 (nth ns 7), .int .i64 (nth ns 8), .int .i64 (nth ns 9), .slice none 0 0] (0, 0) _ rfl HR.out Tryd.underlying35 rfl rec_size) rfl (HP.out _ (((Mod.refl [] w).alloc _).alloc _))
  · have HP : Hid (∀ w', Mod [] w w' → BareP ⟨3, ns, d⟩ w (.returned (.agg #[.int .i64 3, .int .i64 0, .int .i64 0, .int .i64 0, .int .i64 0, .int .i64 (nth ns 4), .int .i64 0, .int .i64 0, .int .i64 0, .int .i64 0, .int .i64 0, .slice none 0 0])) w') := Lib.hid fun w' hm => ⟨none, 0, rfl, Cells8.nil _ _, hm⟩
    have HR : Hid (((w.alloc (.cells (recA ⟨3, ns, d⟩ pa pc) 35)).alloc (.cells #[.int .i64 3, .int .i64 0, .int .i64 0, .int .i64 0, .int .i64 0, .int .i64 (nth ns 4), .int .i64 0, .int .i64 0, .int .i64 0, .int .i64 0, .int .i64 0, .slice none 0 0] 35)).heap[w.heap.size + 1]? = some (.cells #[.int .i64 3, .int .i64 0, .int .i64 0, .int .i64 0, .int .i64 0, .int .i64 (nth ns 4), .int .i64 0, .int .i64 0, .int .i64 0, .int .i64 0, .int .i64 0, .slice none 0 0] 35 (0, 0))) := Lib.hid (by have h := heap_alloc_new (w.alloc (.cells (recA ⟨3, ns, d⟩ pa pc) 35)) (.cells #[.int .i64 3, .int .i64 0, .int .i64 0, .int .i64 0, .int .i64 0, .int .i64 (nth ns 4), .int .i64 0, .int .i64 0, .int .i64 0, .int .i64 0, .int .i64 0, .slice none 0 0] 35); simpa using h)
    go_enter Tryd.func43, Tryd.ntmps43
    go_wp2
    exact bodyPost_ret (v := .agg #[.int .i64 3, .int .i64 0, .int .i64 0, .int .i64 0, .int .i64 0, .int .i64 (nth ns 4), .int .i64 0, .int .i64 0, .int .i64 0, .int .i64 0, .int .i64 0, .slice none 0 0]) (results_cell_row rfl _ _ (w.heap.size + 1) 35 #[.int .i64 3, .int .i64 0, .int .i64 0, .int .i64 0, .int .i64 0, .int .i64 (nth ns 4), .int .i64 0, .int .i64 0, .int .i64 0, .int .i64 0, .int .i64 0, .slice none 0 0] (0, 0) _ rfl HR.out Tryd.underlying35 rfl rec_size) rfl (HP.out _ (((Mod.refl [] w).alloc _).alloc _))
  · have HP : Hid (∀ w', Mod [] w w' → BareP ⟨4, ns, d⟩ w (.returned (.agg #[.int .i64 4, .int .i64 0, .int .i64 0, .int .i64 0, .int .i64 0, .int .i64 (nth ns 4), .int .i64 0, .int .i64 (nth ns 6), .int .i64 0, .int .i64 0, .int .i64 0, .slice none 0 0])) w') := Lib.hid fun w' hm => ⟨none, 0, rfl, Cells8.nil _ _, hm⟩
    have HR : Hid (((w.alloc (.cells (recA ⟨4, ns, d⟩ pa pc) 35)).alloc (.cells #[.int .i64 4, .int .i64 0, .int .i64 0, .int .i64 0, .int .i64 0, .int .i64 (nth ns 4), .int .i64 0, .int .i64 (nth ns 6), .int .i64 0, .int .i64 0, .int .i64 0, .slice none 0 0] 35)).heap[w.heap.size + 1]? = some (.cells #[.int .i64 4, .int .i64 0, .int .i64 0, .int .i64 0, .int .i64 0, .int .i64 (nth ns 4), .int .i64 0, .int .i64 (nth ns 6), .int .i64 0, .int .i64 0, .int .i64 0, .slice none 0 0] 35 (0, 0))) := Lib.hid (by have h := heap_alloc_new (w.alloc (.cells (recA ⟨4, ns, d⟩ pa pc) 35)) (.cells #[.int .i64 4, .int .i64 0, .int .i64 0, .int .i64 0, .int .i64 0, .int .i64 (nth ns 4), .int .i64 0, .int .i64 (nth ns 6), .int .i64 0, .int .i64 0, .int .i64 0, .slice none 0 0] 35); simpa using h)
    go_enter Tryd.func43, Tryd.ntmps43
    go_wp2
    exact bodyPost_ret (v := .agg #[.int .i64 4, .int .i64 0, .int .i64 0, .int .i64 0, .int .i64 0, .int .i64 (nth ns 4), .int .i64 0, .int .i64 (nth ns 6), .int .i64 0, .int .i64 0, .int .i64 0, .slice none 0 0]) (results_cell_row rfl _ _ (w.heap.size + 1) 35 #[.int .i64 4, .int .i64 0, .int .i64 0, .int .i64 0, .int .i64 0, .int .i64 (nth ns 4), .int .i64 0, .int .i64 (nth ns 6), .int .i64 0, .int .i64 0, .int .i64 0, .slice none 0 0] (0, 0) _ rfl HR.out Tryd.underlying35 rfl rec_size) rfl (HP.out _ (((Mod.refl [] w).alloc _).alloc _))
  · have HP : Hid (∀ w', Mod [] w w' → BareP ⟨5, ns, d⟩ w (.returned (.agg #[.int .i64 5, .int .i64 0, .int .i64 0, .int .i64 (nth ns 2), .int .i64 0, .int .i64 0, .int .i64 0, .int .i64 0, .int .i64 0, .int .i64 0, .int .i64 0, .slice none 0 0])) w') := Lib.hid fun w' hm => ⟨none, 0, rfl, Cells8.nil _ _, hm⟩
    have HR : Hid (((w.alloc (.cells (recA ⟨5, ns, d⟩ pa pc) 35)).alloc (.cells #[.int .i64 5, .int .i64 0, .int .i64 0, .int .i64 (nth ns 2), .int .i64 0, .int .i64 0, .int .i64 0, .int .i64 0, .int .i64 0, .int .i64 0, .int .i64 0, .slice none 0 0] 35)).heap[w.heap.size + 1]? = some (.cells #[.int .i64 5, .int .i64 0, .int .i64 0, .int .i64 (nth ns 2), .int .i64 0, .int .i64 0, .int .i64 0, .int .i64 0, .int .i64 0, .int .i64 0, .int .i64 0, .slice none 0 0] 35 (0, 0))) := Lib.hid (by have h := heap_alloc_new (w.alloc (.cells (recA ⟨5, ns, d⟩ pa pc) 35)) (.cells #[.int .i64 5, .int .i64 0, .int .i64 0, .int .i64 (nth ns 2), .int .i64 0, .int .i64 0, .int .i64 0, .int .i64 0, .int .i64 0, .int .i64 0, .int .i64 0, .slice none 0 0] 35); simpa using h)
    go_enter Tryd.func43, Tryd.ntmps43
    go_wp2
    exact bodyPost_ret (v := .agg #[.int .i64 5, .int .i64 0, .int .i64 0, .int .i64 (nth ns 2), .int .i64 0, .int .i64 0, .int .i64 0, .int .i64 0, .int .i64 0, .int .i64 0, .int .i64 0, .slice none 0 0]) (results_cell_row rfl _ _ (w.heap.size + 1) 35 #[.int .i64 5, .int .i64 0, .int .i64 0, .int .i64 (nth ns 2), .int .i64 0, .int .i64 0, .int .i64 0, .int .i64 0, .int .i64 0, .int .i64 0, .int .i64 0, .slice none 0 0] (0, 0) _ rfl HR.out Tryd.underlying35 rfl rec_size) rfl (HP.out _ (((Mod.refl [] w).alloc _).alloc _))
  · have HP : Hid (∀ w', Mod [] w w' → BareP ⟨6, ns, d⟩ w (.returned (.agg #[.int .i64 6, .int .i64 0, .int .i64 0, .int .i64 0, .int .i64 0, .int .i64 0, .int .i64 0, .int .i64 0, .int .i64 (nth ns 7), .int .i64 0, .int .i64 0, .slice pa d.length pc])) w') := Lib.hid fun w' hm => ⟨pa, pc, rfl, (HC.out : Cells8 w pa d), hm⟩
    have HR : Hid (((w.alloc (.cells (recA ⟨6, ns, d⟩ pa pc) 35)).alloc (.cells #[.int .i64 6, .int .i64 0, .int .i64 0, .int .i64 0, .int .i64 0, .int .i64 0, .int .i64 0, .int .i64 0, .int .i64 (nth ns 7), .int .i64 0, .int .i64 0, .slice pa d.length pc] 35)).heap[w.heap.size + 1]? = some (.cells #[.int .i64 6, .int .i64 0, .int .i64 0, .int .i64 0, .int .i64 0, .int .i64 0, .int .i64 0, .int .i64 0, .int .i64 (nth ns 7), .int .i64 0, .int .i64 0, .slice pa d.length pc] 35 (0, 0))) := Lib.hid (by have h := heap_alloc_new (w.alloc (.cells (recA ⟨6, ns, d⟩ pa pc) 35)) (.cells #[.int .i64 6, .int .i64 0, .int .i64 0, .int .i64 0, .int .i64 0, .int .i64 0, .int .i64 0, .int .i64 0, .int .i64 (nth ns 7), .int .i64 0, .int .i64 0, .slice pa d.length pc] 35); simpa using h)
    go_enter Tryd.func43, Tryd.ntmps43
    go_wp2
    exact bodyPost_ret (v := .agg #[.int .i64 6, .int .i64 0, .int .i64 0, .int .i64 0, .int .i64 0, .int .i64 0, .int .i64 0, .int .i64 0, .int .i64 (nth ns 7), .int .i64 0, .int .i64 0, .slice pa d.length pc]) (results_cell_row rfl _ _ (w.heap.size + 1) 35 #[.int .i64 6, .int .i64 0, .int .i64 0, .int .i64 0, .int .i64 0, .int .i64 0, .int .i64 0, .int .i64 0, .int .i64 (nth ns 7), .int .i64 0, .int .i64 0, .slice pa d.length pc] (0, 0) _ rfl HR.out Tryd.underlying35 rfl rec_size) rfl (HP.out _ (((Mod.refl [] w).alloc _).alloc _))
theorem bytes_beq (a b : ByteArray) : (a == b) = true ↔ a = b := by
  rw [beq_toListBytes]
  constructor
  · intro h
    have h2 : a.toList = b.toList := by simpa using h
    rw [ByteArray.toList_eq, ByteArray.toList_eq] at h2
    obtain ⟨⟨x⟩⟩ := a
    obtain ⟨⟨y⟩⟩ := b
    simp at h2
    rw [h2]
  · rintro rfl; simp
/-- two records -/
def sameB (a b : Rc) : Bool := decide (a.kind = b.kind) && (decide (a.ns = b.ns) && decide (a.data = b.data))
theorem nth_ext {a b : List Int} (ha : a.length = 10) (hb : b.length = 10) : a = b ↔ nth a 0 = nth b 0 ∧ nth a 1 = nth b 1 ∧ nth a 2 = nth b 2 ∧ nth a 3 = nth b 3 ∧ nth a 4 = nth b 4 ∧ nth a 5 = nth b 5 ∧ nth a 6 = nth b 6 ∧ nth a 7 = nth b 7 ∧ nth a 8 = nth b 8 ∧ nth a 9 = nth b 9 := by
  obtain ⟨a0, a1, a2, a3, a4, a5, a6, a7, a8, a9, rfl⟩ := ten ha
  obtain ⟨b0, b1, b2, b3, b4, b5, b6, b7, b8, b9, rfl⟩ := ten hb
  simp [nth]
theorem nth_dec {a b : List Int} (ha : a.length = 10) (hb : b.length = 10) : decide (a = b) = (decide (nth a 0 = nth b 0) && (decide (nth a 1 = nth b 1) && (decide (nth a 2 = nth b 2) && (decide (nth a 3 = nth b 3) && (decide (nth a 4 = nth b 4) && (decide (nth a 5 = nth b 5) && (decide (nth a 6 = nth b 6) && (decide (nth a 7 = nth b 7) && (decide (nth a 8 = nth b 8) && decide (nth a 9 = nth b 9)))))))))) := by
  rw [Bool.eq_iff_iff]
  simp [nth_ext ha hb]
set_option maxRecDepth 100000 in
set_option maxHeartbeats 4000000 in
theorem rsame_any (x y : Rc) (hx : x.ns.length = 10) (hy : y.ns.length = 10) (pa pb : Option Addr) (pc pd : Nat) (w : World) (ha : Cells8 w pa x.data) (hb : Cells8 w pb y.data) :
    Calls Tryd.prog 22 #[.agg (recA x pa pc), .agg (recA y pb pd)] w fun e w' => e = .returned (.bool (sameB x y)) ∧ Mod [] w w' := by
  obtain ⟨k, ns, d⟩ := x
  obtain ⟨k', ns', d'⟩ := y
  simp only at hx hy ha hb
  have hm : Mod [] w ((w.alloc (.cells (recA ⟨k, ns, d⟩ pa pc) 35)).alloc (.cells (recA ⟨k', ns', d'⟩ pb pd) 35)) := ((Mod.refl [] w).alloc _).alloc _
  have hbl := hm.toBelow (Nat.le_refl _) (by simp)
  have HM := Lib.hid hm
  have F1 := run_str (P := Tryd.prog) (ha.old hbl) 33 9 5 d.length pc Tryd.underlying33 Tryd.underlying5 Tryd.underlying9 rfl
  have F2 := run_str (P := Tryd.prog) (hb.old hbl) 33 9 5 d'.length pd Tryd.underlying33 Tryd.underlying5 Tryd.underlying9 rfl
  have HS := Lib.hid (show sameB ⟨k, ns, d⟩ ⟨k', ns', d'⟩ = (decide (k = k') && (decide (ns = ns') && decide (d = d'))) from rfl)
  have HN := Lib.hid (nth_dec hx hy)
  have hq : ((strOfNums d).toList == (strOfNums d').toList) = decide (d = d') := by
    rw [← beq_toListBytes, Bool.eq_iff_iff, bytes_beq]
    simp [strOfNums_inj ha.1 hb.1]
  clear hbl ha hb hx hy
  generalize hsd : strOfNums d = s1 at *
  generalize hsd' : strOfNums d' = s2 at *
  generalize hqb : decide (d = d') = q at *
  clear hsd hsd' hqb
  generalize sameB ⟨k, ns, d⟩ ⟨k', ns', d'⟩ = r at *
  by_cases hk : k = k'
  · subst hk
    clear hm
    go_enter Tryd.func22, Tryd.ntmps22
    go_wp2
    all_goals (go_ret; exact ⟨ret_bool (by rw [HS.out, HN.out]; clear F1 F2 HS HN HM hq; simp_all), HM.out⟩)
  · have hr : r = false := by rw [HS.out]; simp [hk]
    subst hr
    go_enter Tryd.func22, Tryd.ntmps22
    go_wp2
    all_goals (go_ret; exact ⟨rfl, HM.out⟩)
end Go.Proofs.YtfcdapicemlfgaaDoor
