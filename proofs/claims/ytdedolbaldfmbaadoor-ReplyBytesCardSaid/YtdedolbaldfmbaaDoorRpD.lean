/- Replies: what is known of the library's variables; the program's number. -/
import Derived.Test.YtdedolbaldfmbaaDoorRpA
import Derived.Test.YtdedolbaldfmbaaDoorRpR
namespace Go.Proofs.YtdedolbaldfmbaaDoor
open Go.Shelf Go.ChangeShapes Go.WideShapes Go.ChangeAt Go.RowKit
set_option linter.unusedVariables false
set_option linter.unusedSimpArgs false

theorem tab_mod {F : List Nat} {n : String} {g : Nat} {k : IntKind} {zs : List Int} {w w' : World} (hg : Tryd.prog.globalNamed n = some g) (h : Lib.TabIs Tryd.prog w n k zs) (hm : Mod F w w') (hF : g ∉ F) : Lib.TabIs Tryd.prog w' n k zs := by
  unfold Lib.TabIs World.var? at h ⊢
  rw [hg] at h ⊢
  simp only [Option.bind_some] at h ⊢
  cases hh : w.heap[g]? with
  | none => rw [hh] at h; cases h
  | some o => rw [hm.row hh hF]; rw [hh] at h; exact h
theorem gP10 : Tryd.prog.globalNamed "internal/strconv.uint64pow10" = some 1 := by kernel_rfl
/-- the variables that are read -/
structure Env (w : World) : Prop where
  ml : ∃ m, w.cell? ⟨0, 0, none⟩ = some (.int .i64 m)
  es : ∃ ev, w.cell? ⟨2, 0, none⟩ = some ev ∧ (ev = .nilIface ∨ ∃ te pe, ev = .iface te pe)
  tab : Lib.TabIs Tryd.prog w "internal/strconv.uint64pow10" .u64 Lib.pow10Tab
theorem Env.lt {w : World} (h : Env w) : 3 ≤ w.heap.size := by
  obtain ⟨ev, h1, _⟩ := h.es
  have := World.block_lt_of_cell? w _ h1
  exact this
theorem Env.mod {F : List Nat} {w w' : World} (h : Env w) (hm : Mod F w w') (hF : ∀ x ∈ F, 3 ≤ x) : Env w' := by
  obtain ⟨m, k1⟩ := h.ml
  obtain ⟨ev, k2, k3⟩ := h.es
  have no : ∀ k, k < 3 → k ∉ F := fun k hk hx => by have := hF k hx; omega
  exact ⟨⟨m, hm.cell k1 (no _ (by decide))⟩, ⟨ev, hm.cell k2 (no _ (by decide)), k3⟩, tab_mod gP10 h.tab hm (no _ (by decide))⟩
theorem Env.quiet {w w' : World} (h : Env w) (hm : Mod [] w w') : Env w' := h.mod hm (by simp)
theorem mod_drewN (w : World) (n : Nat) : Mod [] w (w.drewN n) := ⟨rfl, rfl, rfl, Nat.le_refl _, fun _ _ _ => rfl⟩
theorem mod_grow {w : World} (k : Nat) (os : Array Obj) : Mod [] w (Go.Sort.grow (w.drewN k) os) := by
  have h1 := mod_drewN w k
  refine h1.trans ⟨rfl, rfl, rfl, by simp [Go.Sort.grow], fun i hi _ => ?_⟩
  show ((w.drewN k).heap ++ os)[i]? = _
  rw [Array.getElem?_append_left hi]
theorem data_ext {a b : ByteArray} (h : a.data.toList = b.data.toList) : a = b := by
  apply ByteArray.ext
  exact Array.toList_inj.1 h
theorem toList_beq {a b : ByteArray} : (a.toList == b.toList) = decide (a = b) := by
  rw [Bool.eq_iff_iff, beq_iff_eq, decide_eq_true_iff]
  exact ⟨str_toList_inj, fun h => by rw [h]⟩
/-- a number, and whether it is one -/
def numV (o : Option Nat) : Value := .tuple #[.int .i64 (o.getD 0 : Nat), .bool o.isSome]
def NumP (s : ByteArray) (w : World) (e : Ending) (w' : World) : Prop := e = .returned (numV (numP (nums s))) ∧ Mod [] w w'
set_option maxHeartbeats 1000000 in
theorem number_any (s : ByteArray) (w : World) (hE : Env w) (hs : s.size ≤ 100000) : Calls Tryd.prog 33 #[.string s] w (NumP s w) := by
  have HL := Lib.hid (nums_length s)
  unfold NumP numV
  by_cases h3 : 3 < s.size
  · have h3' : (3 : Int) < (s.size : Int) := by omega
    have HR := Lib.hid (num_long (l := nums s) (by rw [HL.out]; exact h3))
    rw [HR.out]
    clear h3
    go_enter Tryd.func33, Tryd.ntmps33
    go_wp2_with fail
    go_ret2
    exact ⟨rfl, Mod.refl _ _⟩
  · have h3' : (s.size : Int) ≤ 3 := by omega
    have hsl : s.data.toList.length = s.size := by simp
    cases ha : Lib.atoi s.data.toList with
    | none =>
      obtain ⟨ev, hv, hev⟩ := hE.es
      have HR := Lib.hid (show numP (nums s) = none by rw [nums_ints]; exact num_no ha)
      have HC := Lib.hid (Tryd.strconv_Atoi_err s (by omega) ha ev w hv hev)
      rw [HR.out]
      clear hsl ha hE hv hev h3
      go_enter Tryd.func33, Tryd.ntmps33
      go_wp2_with fail
      refine HC.out.mono ?_
      rintro e w1 ⟨N, rfl, -, -, hb⟩
      have HB := Lib.hid hb
      clear hb
      go_wp2_with fail
      go_ret2
      exact ⟨rfl, Mod.ofBelow HB.out⟩
    | some n =>
      have HC := Lib.hid (Tryd.strconv_Atoi s n (by omega) ha w)
      by_cases h0 : n < 0
      · have HR := Lib.hid (show numP (nums s) = none by rw [nums_ints]; exact num_neg ha h0)
        rw [HR.out]
        clear hsl ha hE h3
        go_enter Tryd.func33, Tryd.ntmps33
        go_wp2_with fail
        refine HC.out.mono ?_
        rintro e w1 ⟨rfl, t, rfl⟩
        have HB := Lib.hid (Lib.bytesWorld_below w 5 t)
        generalize Lib.bytesWorld w 5 t = w1 at *
        go_wp2_with fail
        go_ret2
        exact ⟨rfl, Mod.ofBelow HB.out⟩
      · have h0' : 0 ≤ n := by omega
        have hlt : n < 1000 := atoi_lt ha (by omega)
        have HI := Lib.hid (fun (W : World) (hW : Env W) => Tryd.strconv_Itoa n (by omega) (by omega) W hW.tab)
        have HE := Lib.hid (fun (W : World) (hm : Mod [] w W) => hE.quiet hm)
        have hcmp : ((⟨(Lib.itoa n).toArray⟩ : ByteArray).toList == s.toList) = decide (Lib.itoa n = s.data.toList) := by
          rw [toList_beq, Bool.eq_iff_iff, decide_eq_true_iff, decide_eq_true_iff]
          constructor
          · intro h; rw [← h]
          · intro h; exact data_ext (by simpa using h)
        by_cases hi : Lib.itoa n = s.data.toList
        · have HR := Lib.hid (show numP (nums s) = some n.toNat by rw [nums_ints]; exact num_itoa h0' (by omega) hi)
          rw [HR.out, show (some n.toNat).isSome = true from rfl, show (some n.toNat).getD 0 = n.toNat from rfl, show ((n.toNat : Nat) : Int) = n by omega]
          have hc := hcmp.trans (decide_eq_true hi)
          clear hsl ha hE h3 hcmp hi h0
          generalize (⟨(Lib.itoa n).toArray⟩ : ByteArray) = I at *
          go_enter Tryd.func33, Tryd.ntmps33
          go_wp2_with fail
          refine HC.out.mono ?_
          rintro e w1 ⟨rfl, t, rfl⟩
          have HB := Lib.hid (Mod.ofBelow (Lib.bytesWorld_below w 5 t))
          generalize Lib.bytesWorld w 5 t = w1 at *
          go_wp2_with (go_at_call 39; refine (HI.out _ (HE.out _ HB.out)).mono ?_; rintro e w2 ⟨rfl, k, os, rfl⟩)
          have HM := Lib.hid (mod_grow (w := w1) k os)
          go_ret2
          exact ⟨rfl, HB.out.trans HM.out⟩
        · have HR := Lib.hid (show numP (nums s) = none by rw [nums_ints]; exact num_other ha hi)
          rw [HR.out]
          have hc := hcmp.trans (decide_eq_false hi)
          clear hsl ha hE h3 hcmp hi h0
          generalize (⟨(Lib.itoa n).toArray⟩ : ByteArray) = I at *
          go_enter Tryd.func33, Tryd.ntmps33
          go_wp2_with fail
          refine HC.out.mono ?_
          rintro e w1 ⟨rfl, t, rfl⟩
          have HB := Lib.hid (Mod.ofBelow (Lib.bytesWorld_below w 5 t))
          generalize Lib.bytesWorld w 5 t = w1 at *
          go_wp2_with (go_at_call 39; refine (HI.out _ (HE.out _ HB.out)).mono ?_; rintro e w2 ⟨rfl, k, os, rfl⟩)
          have HM := Lib.hid (mod_grow (w := w1) k os)
          go_ret2
          exact ⟨rfl, HB.out.trans HM.out⟩
end Go.Proofs.YtdedolbaldfmbaaDoor
