import Derived.Test.YthcgnnhfkejglaaGreatDoorAdB
import Derived.Test.YthcgnnhfkejglaaGreatDoorCmQ
/- Commands: kinds of bytes (span, visible, inName and what they hand back). -/
namespace Go.Proofs.YthcgnnhfkejglaaGreatDoor
open Go.Shelf Go.ChangeShapes Go.WideShapes Go.ChangeAt Go.RowKit
set_option linter.unusedVariables false
set_option linter.unusedSimpArgs false

set_option maxHeartbeats 400000 in
theorem cspan1_any (lo hi c : Int) (b1 b2 : Nat) (w : World) (h1 : w.heap[b1]? = some (.cells #[.int .u8 lo] 5 (0, 0))) (h2 : w.heap[b2]? = some (.cells #[.int .u8 hi] 5 (0, 0))) :
    Calls Tryz.prog 29 #[.int .u8 c, .pointer (some ⟨b1, 0, none⟩), .pointer (some ⟨b2, 0, none⟩)] w fun e w' => e = .returned (.bool (spanB lo hi c)) ∧ w = w' := by
  have c1 := blk_cell h1 0
  have c2 := blk_cell h2 0
  clear h1 h2
  by_cases hl : lo ≤ c
  · by_cases hh : c ≤ hi
    all_goals
      go_enter Tryz.func29, Tryz.ntmps29
      go_wp2_with fail
      go_ret
      exact ⟨ret_bool (by simp [spanB, hl, hh]), rfl⟩
  · go_enter Tryz.func29, Tryz.ntmps29
    go_wp2_with fail
    go_ret
    exact ⟨ret_bool (by simp only [spanB, show decide (lo ≤ c) = false from decide_eq_false (by omega), Bool.false_and]), rfl⟩

set_option maxHeartbeats 400000 in
theorem cspan_any (lo hi : Int) (w : World) :
    Calls Tryz.prog 14 #[.int .u8 lo, .int .u8 hi] w (KindP (spanB lo hi) w) := by
  have hmf : ∀ (fn : Fn) (first cp : Array Value) (w : World), (Instr.makeFunc fn first cp).run Tryz.prog w = .ok (.func fn first cp) w := fun _ _ _ _ => rfl
  go_enter Tryz.func14, Tryz.ntmps14
  go_wp2_with fail
  go_ret
  have hn1 := heap_alloc_new w (.cells #[.int .u8 lo] 5)
  have hn2 := heap_alloc_new (w.alloc (.cells #[.int .u8 lo] 5)) (.cells #[.int .u8 hi] 5)
  have hs : (w.alloc (.cells #[.int .u8 lo] 5)).heap.size = w.heap.size + 1 := by simp
  refine ⟨_, rfl, ⟨_, _, [(w.heap.size, .cells #[.int .u8 lo] 5 (0, 0)), (w.heap.size + 1, .cells #[.int .u8 hi] 5 (0, 0))], rfl, enters_of Tryz.func29 (by kernel_rfl) rfl, ?_, ?_, ?_⟩, ?_⟩
  · intro x hx
    simp at hx
    rcases hx with rfl | rfl
    · exact ((Mod.refl [] _).alloc _).row hn1 (by simp)
    · rw [hs] at hn2; exact hn2
  · intro x hx
    simp at hx
    rcases hx with rfl | rfl <;> (simp; try omega)
  · intro w' hS c h0 h1
    exact cspan1_any lo hi c _ _ w' (hS (_, _) (by simp)) (hS (_, _) (by simp))
  · exact (((Mod.refl [] w).alloc _).alloc _).toBelow (Nat.le_refl _) (by simp)

set_option maxHeartbeats 400000 in
theorem cvisible1_any (s : ByteArray) (c : Int) (b1 b2 : Nat) (w : World) (lo hi : Nat) (v : Value) (h0 : 0 ≤ c) (hc : c < 256) (hk : Kd lo hi w v (spanB 33 126)) (h1 : w.heap[b1]? = some (.cells #[v] 42 (0, 0))) (h2 : w.heap[b2]? = some (.cells #[.string s] 9 (0, 0))) :
    Calls Tryz.prog 96 #[.int .u8 c, .pointer (some ⟨b1, 0, none⟩), .pointer (some ⟨b2, 0, none⟩)] w fun e w' => e = .returned (.bool (visB (nums s) c)) ∧ w = w' := by
  obtain ⟨f, caps, S, rfl, hent, hS, hW, hC⟩ := hk
  have c1 := blk_cell h1 0
  have c2 := blk_cell h2 0
  have HC := Lib.hid (hC w hS c h0 hc)
  have hent' : ∀ args w, (callFunc f args).run Tryz.prog w = .ok (.enter f args) w := hent
  have HE := Lib.hid (among_mem s c h0 hc)
  have hlo := (indexByte_mem s.data.toList c.toNat.toUInt8).1
  clear h1 h2 hS hW hC hent
  generalize hq : spanB 33 126 c = q at HC
  have HQ := Lib.hid hq
  clear hq
  cases q
  · go_enter Tryz.func96, Tryz.ntmps96
    go_wp2_with ((with_reducible refine HC.out.mono ?_); rintro e w1 ⟨rfl, rfl⟩)
    go_ret
    exact ⟨ret_bool (by simp [visB, HQ.out]), rfl⟩
  · go_enter Tryz.func96, Tryz.ntmps96
    go_wp2_with (first | ((with_reducible refine HC.out.mono ?_); rintro e w1 ⟨rfl, rfl⟩) | (go_at_call 97; refine (Tryz.strings_IndexByte _ _ _).mono ?_; rintro e w' ⟨rfl, rfl⟩))
    go_ret
    refine ⟨ret_bool ?_, rfl⟩
    unfold visB
    have e : UInt8.ofNat c.toNat = c.toNat.toUInt8 := rfl
    rw [HQ.out, ← HE.out, Bool.true_and, ← decide_not, e]
    exact decide_eq_decide.2 (by omega)

theorem run_store_one {P : Program} {w : World} {a : Addr} {u v : Value} (h : w.cell? a = some u) (hf : w.frozen? a = false) (hv : v.oneCell' = true) : (store a v).run P w = .ok () (w.setCell a v) := by
  rw [run_store _ _ _ _ _ hv, h]; simp [hf]
set_option maxHeartbeats 1000000 in
theorem cvisible_any (s : ByteArray) (w : World) :
    Calls Tryz.prog 72 #[.string s] w (KindP (visB (nums s)) w) := by
  have hmf : ∀ (fn : Fn) (first cp : Array Value) (w : World), (Instr.makeFunc fn first cp).run Tryz.prog w = .ok (.func fn first cp) w := fun _ _ _ _ => rfl
  have hn1 := heap_alloc_new w (.cells #[.string s] 9)
  have hm1 : Mod [] w (w.alloc (.cells #[.string s] 9)) := (Mod.refl [] w).alloc _
  have hz1 : (w.alloc (.cells #[.string s] 9)).heap.size = w.heap.size + 1 := by simp
  have HN1 := Lib.hid hn1
  have HM1 := Lib.hid hm1
  have HZ1 := Lib.hid hz1
  clear hn1 hm1 hz1
  go_enter Tryz.func72, Tryz.ntmps72
  go_wp2_with fail
  generalize w.alloc (.cells #[.string s] 9) = w0 at *
  refine (cspan_any _ _ _).mono ?_
  rintro e w1 ⟨v1, rfl, hk1, hb1⟩
  obtain ⟨f1, c1, rfl⟩ := hk1.shape
  have HK1 := Lib.hid hk1
  have HB1 := Lib.hid hb1
  clear hk1 hb1
  have hst := run_store_one (P := Tryz.prog) (v := .func (.func f1) #[] c1) (blk_cell (heap_alloc_new w1 (.cells #[.nilFunc] 42)) 0) (blk_free (heap_alloc_new w1 (.cells #[.nilFunc] 42)) 0) rfl
  go_wp2_with fail
  go_ret
  clear hst
  have hm2 : Mod [] w1 (w1.alloc (.cells #[.func (.func f1) #[] c1] 42)) := (Mod.refl [] w1).alloc _
  have hn2 := heap_alloc_new w1 (.cells #[.func (.func f1) #[] c1] 42)
  have hz2 : (w1.alloc (.cells #[.func (.func f1) #[] c1] 42)).heap.size = w1.heap.size + 1 := by simp
  have hs1 := HB1.out.size
  have e1 := HZ1.out
  obtain ⟨f', caps', S, hv, he, hS, hW, hC⟩ := HK1.out
  refine ⟨_, rfl, ⟨_, _, (w1.heap.size, .cells #[.func (.func f1) #[] c1] 42 (0, 0)) :: (w.heap.size, .cells #[.string s] 9 (0, 0)) :: S, rfl, enters_of Tryz.func96 (by kernel_rfl) rfl, ?_, ?_, ?_⟩, ?_⟩
  · intro x hx
    simp only [List.mem_cons] at hx
    rcases hx with rfl | rfl | hx
    · exact hn2
    · exact hm2.row (below_blk HB1.out HN1.out) (by simp)
    · exact hm2.row (hS x hx) (by simp)
  · intro x hx
    simp only [List.mem_cons] at hx
    rw [hz2]
    rcases hx with rfl | rfl | hx
    · simp; omega
    · simp; omega
    · have := hW x hx; omega
  · intro w' hS' c h0 h1
    exact cvisible1_any s c _ _ w' _ _ _ h0 h1 ⟨f', caps', S, hv, he, fun x hx => hS' x (by simp [hx]), hW, hC⟩ (hS' (_, _) (by simp)) (hS' (w.heap.size, .cells #[.string s] 9 (0, 0)) (by simp))
  · exact ((HM1.out.trans (Mod.ofBelow HB1.out)).trans hm2).toBelow (Nat.le_refl _) (by simp)

end Go.Proofs.YthcgnnhfkejglaaGreatDoor

