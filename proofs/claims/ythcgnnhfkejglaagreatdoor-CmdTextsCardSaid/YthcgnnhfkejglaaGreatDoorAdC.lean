import Derived.Test.YthcgnnhfkejglaaGreatDoorAdB
import Derived.BigQuiet
/- The reader: ended, fault, meets, take, pass, run. -/
namespace Go.Proofs.YthcgnnhfkejglaaGreatDoor
open Go.Shelf Go.ChangeShapes Go.WideShapes Go.ChangeAt Go.RowKit
set_option linter.unusedVariables false
set_option linter.unusedSimpArgs false

/-- a reader of the text s -/
def RD (w : World) (rb : Nat) (s : ByteArray) (at_ : Nat) (lg : Bool) : Prop := w.heap[rb]? = some (.cells #[.string s, .int .i64 at_, .bool lg] 71 (0, 0))
theorem RD.c0 {w : World} {rb : Nat} {s : ByteArray} {at_ : Nat} {lg : Bool} (h : RD w rb s at_ lg) : w.cell? ⟨rb, 0, none⟩ = some (.string s) := blk_cell h 0
theorem RD.c1 {w : World} {rb : Nat} {s : ByteArray} {at_ : Nat} {lg : Bool} (h : RD w rb s at_ lg) : w.cell? ⟨rb, 1, none⟩ = some (.int .i64 at_) := blk_cell h 1
theorem RD.c2 {w : World} {rb : Nat} {s : ByteArray} {at_ : Nat} {lg : Bool} (h : RD w rb s at_ lg) : w.cell? ⟨rb, 2, none⟩ = some (.bool lg) := blk_cell h 2
theorem RD.mod {F : List Nat} {w w' : World} {rb : Nat} {s : ByteArray} {at_ : Nat} {lg : Bool} (h : RD w rb s at_ lg) (hm : Mod F w w') (hF : rb ∉ F) : RD w' rb s at_ lg := hm.row h hF
theorem RD.quiet {w w' : World} {rb : Nat} {s : ByteArray} {at_ : Nat} {lg : Bool} (h : RD w rb s at_ lg) (hm : Mod [] w w') : RD w' rb s at_ lg := h.mod hm (by simp)
theorem RD.lt {w : World} {rb : Nat} {s : ByteArray} {at_ : Nat} {lg : Bool} (h : RD w rb s at_ lg) : rb < w.heap.size := blk_lt h
theorem RD.set1 {w : World} {rb : Nat} {s : ByteArray} {at_ : Nat} {lg : Bool} (h : RD w rb s at_ lg) (n : Nat) : RD (w.setCell ⟨rb, 1, none⟩ (.int .i64 n)) rb s n lg := by
  have := blk_set h 1 (.int .i64 n)
  simpa [RD] using this
theorem RD.set2 {w : World} {rb : Nat} {s : ByteArray} {at_ : Nat} {lg : Bool} (h : RD w rb s at_ lg) (g : Bool) : RD (w.setCell ⟨rb, 2, none⟩ (.bool g)) rb s at_ g := by
  have := blk_set h 2 (.bool g)
  simpa [RD] using this
theorem mod_drewN (w : World) (n : Nat) : Mod [] w (w.drewN n) := by
  induction n with
  | zero => exact Mod.refl _ _
  | succ n ih => exact (Mod.refl [] w).trans ⟨rfl, rfl, rfl, Nat.le_refl _, fun _ _ _ => rfl⟩
theorem Calls.quiet_same {P : Program} {f : FuncId} {args : Array Value} {w : World} {n : Nat} {v : Value}
    (h : Calls P f args (w.drewN n) fun e w' => e = .returned v ∧ w.drewN n = w') : Calls P f args (w.drewN n) fun e w'' => e = .returned v ∧ ∃ m, w'' = w.drewN m :=
  h.mono fun _ _ ⟨he, hm⟩ => ⟨he, n, hm.symm⟩

set_option maxHeartbeats 400000 in
theorem ended_any (rb : Nat) (s : ByteArray) (at_ : Nat) (lg : Bool) (w : World) (h : RD w rb s at_ lg) (hs : s.size ≤ 100000) :
    Calls Tryz.prog 69 #[.pointer (some ⟨rb, 0, none⟩)] w fun e w' => e = .returned (.bool ((at_ : Int) == (s.size : Int))) ∧ ∃ n, w' = w.drewN n := by
  have c0 := h.c0
  have c1 := h.c1
  clear h
  go_enter Tryz.func69, Tryz.ntmps69
  go_wp2_with fail
  go_quiet (fail)
  go_wp2_with fail
  go_ret
  exact ⟨rfl, _, rfl⟩

set_option maxHeartbeats 400000 in
theorem fault_any (rb : Nat) (s : ByteArray) (at_ : Nat) (lg b : Bool) (w : World) (h : RD w rb s at_ lg) :
    Calls Tryz.prog 65 #[.pointer (some ⟨rb, 0, none⟩), .bool b] w fun e w' => e = .returned (.int .i64 (if b = false then 3 else if lg = true then 4 else 0)) ∧ w = w' := by
  have c2 := h.c2
  clear h
  cases b
  · go_enter Tryz.func65, Tryz.ntmps65
    go_wp2_with fail
    go_ret
    exact ⟨rfl, rfl⟩
  · cases lg
    all_goals
      go_enter Tryz.func65, Tryz.ntmps65
      go_wp2_with fail
      go_ret
      exact ⟨rfl, rfl⟩

/-- does a byte of the kind stand there -/
def meetsB (p : Int → Bool) (l : List Int) (i : Nat) : Bool := match l[i]? with | none => false | some c => p c
theorem meetsB_end {p : Int → Bool} {l : List Int} : meetsB p l l.length = false := by simp [meetsB]
theorem meetsB_lt {p : Int → Bool} {l : List Int} {i : Nat} (h : i < l.length) : meetsB p l i = p (l.getD i 0) := by simp [meetsB, List.getD, h]
theorem str_at (s : ByteArray) (i : Nat) (h : i < s.size) : ((s[i].toNat : Nat) : Int) = (nums s).getD i 0 := by
  simp [nums, List.getD, h]
  rfl

set_option maxHeartbeats 1000000 in
theorem meets_any (rb : Nat) (s : ByteArray) (at_ : Nat) (lg : Bool) (w : World) (lo hi : Nat) (v : Value) (p : Int → Bool) (h : RD w rb s at_ lg) (hs : s.size ≤ 100000) (ha : at_ ≤ s.size) (hk : Kd lo hi w v p) :
    Calls Tryz.prog 98 #[.pointer (some ⟨rb, 0, none⟩), v] w fun e w' => e = .returned (.bool (meetsB p (nums s) at_)) ∧ ∃ n, w' = w.drewN n := by
  obtain ⟨f, caps, S, rfl, hent, hS, hW, hC⟩ := hk
  have c0 := h.c0
  have c1 := h.c1
  have H := Lib.hid h
  clear h
  have hent' : ∀ args w, (callFunc f args).run Tryz.prog w = .ok (.enter f args) w := hent
  by_cases he : at_ = s.size
  · subst he
    have hee : (((s.size : Nat) : Int) == (s.size : Int)) = true := by simp
    go_enter Tryz.func98, Tryz.ntmps98
    go_wp2_with fail
    go_quiet ((go_at_call 69; exact Calls.quiet_of (ended_any rb s _ lg _ (H.out.quiet (mod_drewN _ _)) hs)))
    go_wp2_with fail
    go_ret
    exact ⟨ret_bool (by rw [← nums_length s, meetsB_end]), _, rfl⟩
  · have hlt : at_ < s.size := by omega
    have hee : ((at_ : Int) == (s.size : Int)) = false := by simp; omega
    have hb := nums_bytes s
    have hbd := hb.getD at_
    have hst := str_at s at_ hlt
    have HC : Hid (∀ n, Calls Tryz.prog f (#[.int .u8 ((s[at_].toNat : Nat) : Int)] ++ caps) (w.drewN n) fun e w'' => e = .returned (.bool (p ((nums s).getD at_ 0))) ∧ w.drewN n = w'') := Lib.hid fun n => by
      rw [hst]; exact hC (w.drewN n) (hS.quiet (mod_drewN _ _)) _ hbd.1 hbd.2
    clear hst hbd hb hC hS hW
    go_enter Tryz.func98, Tryz.ntmps98
    go_wp2_with fail
    go_quiet (first | (go_at_call 69; exact Calls.quiet_of (ended_any rb s _ lg _ (H.out.quiet (mod_drewN _ _)) hs)) | (with_reducible exact Calls.quiet_same (HC.out _)))
    go_wp2_with fail
    go_ret
    exact ⟨ret_bool (meetsB_lt (by rw [nums_length]; exact hlt)).symm, _, rfl⟩
end Go.Proofs.YthcgnnhfkejglaaGreatDoor

