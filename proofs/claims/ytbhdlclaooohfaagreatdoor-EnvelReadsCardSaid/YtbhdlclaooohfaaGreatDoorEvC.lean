import Derived.Test.YtbhdlclaooohfaaGreatDoorEvP
import Derived.Test.YtbhdlclaooohfaaGreatDoorOctH
import Derived.Test.YtbhdlclaooohfaaGreatDoorFrE
import Derived.Test.YtbhdlclaooohfaaGreatDoorFld
import Derived.Deep.LoopGhost
import Derived.Shelf.Abstract
/- Envel: rows of targets and of states, jobs in memory. -/
namespace Go.Proofs.YtbhdlclaooohfaaGreatDoor
open Go.ChangeShapes Go.WideShapes Go.ChangeAt Go.RowKit
set_option linter.unusedVariables false
set_option linter.unusedSimpArgs false

/-- a target as it stands in memory -/
structure Tg where
  user : Int
  l : ByteArray
  d : ByteArray
instance : Inhabited Tg := ⟨⟨0, ⟨#[]⟩, ⟨#[]⟩⟩⟩
instance : Inhabited JSt := ⟨⟨0, 0, 0, 0⟩⟩
abbrev tgC (t : Tg) : Array Value := #[.int .i64 t.user, .string t.l, .string t.d]
abbrev stC (s : JSt) : Array Value := #[.int .i64 s.st, .int .i64 s.tries, .int .i64 s.due, .int .i64 s.code]
abbrev adC (l d : ByteArray) : Array Value := #[.string l, .string d]
/-- at the address a stand elements of k cells each -/
def CellsK {α : Type} (k : Nat) (enc : α → Array Value) (w : World) (a : Option Addr) (xs : List α) : Prop :=
  xs = [] ∨ ∃ b o, a = some ⟨b, o, none⟩ ∧ ∀ i (h : i < xs.length) (j : Nat), j < k → w.cell? ⟨b, o + i * k + j, none⟩ = (enc xs[i])[j]?
section
variable {α : Type} {k : Nat} {enc : α → Array Value} {w w' : World} {a : Option Addr} {xs : List α}
theorem CellsK.nil : CellsK k enc w a ([] : List α) := .inl rfl
theorem CellsK.mod {F : List Nat} (h : CellsK k enc w a xs) (hk : ∀ x, (enc x).size = k) (hm : Mod F w w') (hp : ∀ x, a = some x → x.block ∉ F) : CellsK k enc w' a xs := by
  rcases h with h | ⟨b, o, rfl, hc⟩
  · exact .inl h
  · refine .inr ⟨b, o, rfl, fun i hi j hj => ?_⟩
    have h1 := hc i hi j hj
    have h2 : j < (enc xs[i]).size := by rw [hk]; exact hj
    rw [Array.getElem?_eq_getElem h2] at h1 ⊢
    exact hm.cell h1 (hp ⟨b, o, none⟩ rfl)
theorem CellsK.quiet (h : CellsK k enc w a xs) (hk : ∀ x, (enc x).size = k) (hm : Mod [] w w') : CellsK k enc w' a xs := h.mod hk hm (by simp)
theorem CellsK.addr (h : CellsK k enc w a xs) (hk : ∀ x, (enc x).size = k) (h0 : 0 < k) (hl : 0 < xs.length) : ∃ b o, a = some ⟨b, o, none⟩ ∧ b < w.heap.size := by
  rcases h with rfl | ⟨b, o, rfl, hc⟩
  · simp at hl
  · have h1 := hc 0 hl 0 h0
    have h2 : 0 < (enc xs[0]).size := by rw [hk]; exact h0
    rw [Array.getElem?_eq_getElem h2] at h1
    exact ⟨b, o, rfl, World.block_lt_of_cell? w _ h1⟩
theorem CellsK.at {b o : Nat} (h : CellsK k enc w (some ⟨b, o, none⟩) xs) (i : Nat) (hi : i < xs.length) (j : Nat) (hj : j < k) : w.cell? ⟨b, o + i * k + j, none⟩ = (enc xs[i])[j]? := by
  rcases h with rfl | ⟨b', o', he, hc⟩
  · simp at hi
  · simp only [Option.some.injEq, Addr.mk.injEq, and_true] at he
    obtain ⟨rfl, rfl⟩ := he
    exact hc i hi j hj
/-- the cells of a row, one behind the other -/
def rowC (enc : α → Array Value) (xs : List α) : List Value := xs.flatMap fun x => (enc x).toList
theorem rowC_length (hk : ∀ x, (enc x).size = k) : ∀ xs : List α, (rowC enc xs).length = k * xs.length
  | [] => by simp [rowC]
  | x :: xs => by
    have ih := rowC_length hk xs
    have e : rowC enc (x :: xs) = (enc x).toList ++ rowC enc xs := rfl
    rw [e, List.length_append, ih, Array.length_toList, hk, List.length_cons, Nat.mul_add]; omega
theorem rowC_append (a b : List α) : rowC enc (a ++ b) = rowC enc a ++ rowC enc b := by simp [rowC]
theorem rowC_get (hk : ∀ x, (enc x).size = k) : ∀ (xs : List α) (i : Nat) (hi : i < xs.length) (j : Nat), j < k → (rowC enc xs)[i * k + j]? = (enc xs[i])[j]?
  | [], i, hi, j, hj => by simp at hi
  | x :: xs, i, hi, j, hj => by
    have e : rowC enc (x :: xs) = (enc x).toList ++ rowC enc xs := rfl
    have hx := hk x
    cases i with
    | zero =>
      rw [e, List.getElem?_append_left (by rw [Array.length_toList, hx]; omega)]
      simp
    | succ i =>
      have ih := rowC_get hk xs i (by simpa using hi) j hj
      rw [e, List.getElem?_append_right (by rw [Array.length_toList, hx, Nat.succ_mul]; omega), Array.length_toList, hx]
      rw [show (i + 1) * k + j - k = i * k + j by rw [Nat.succ_mul]; omega, ih]
      rfl
theorem CellsK.ofOwns {base : Nat} {e : TypeId} {n cap : Nat} (hk : ∀ x, (enc x).size = k) (h0 : 0 < k) (h : w.ownsRow base e k (.slice a n cap) n (rowC enc xs)) (hn : n = xs.length) : CellsK k enc w a xs := by
  rcases h.2 with ⟨he, h3⟩ | ⟨g, c, cur, hv, _⟩
  · left; exact List.eq_nil_of_length_eq_zero (by omega)
  · simp only [Value.slice.injEq] at hv
    obtain ⟨rfl, _, rfl⟩ := hv
    refine .inr ⟨g, 0, rfl, fun i hi j hj => ?_⟩
    have hl := rowC_length hk xs
    have hlt : i * k + j < n * k := by
      have : (i + 1) * k ≤ n * k := Nat.mul_le_mul_right k (by omega)
      rw [Nat.succ_mul] at this; omega
    rw [Nat.zero_add, h.cellAt (i * k + j) hlt]
    exact rowC_get hk xs i hi j hj
end
theorem tgC_size (t : Tg) : (tgC t).size = 3 := rfl
theorem stC_size (s : JSt) : (stC s).size = 4 := rfl
abbrev CellsT (w : World) (a : Option Addr) (xs : List Tg) : Prop := CellsK 3 tgC w a xs
abbrev CellsSt (w : World) (a : Option Addr) (xs : List JSt) : Prop := CellsK 4 stC w a xs
theorem CellsT.row {w : World} {b o : Nat} {xs : List Tg} (h : CellsT w (some ⟨b, o, none⟩) xs) (i : Nat) (hi : i < xs.length) :
    w.cell? ⟨b, o + i * 3, none⟩ = some (.int .i64 xs[i].user) ∧ w.cell? ⟨b, o + i * 3 + 1, none⟩ = some (.string xs[i].l) ∧ w.cell? ⟨b, o + i * 3 + 2, none⟩ = some (.string xs[i].d) :=
  ⟨h.at i hi 0 (by decide), h.at i hi 1 (by decide), h.at i hi 2 (by decide)⟩
theorem CellsSt.row {w : World} {b o : Nat} {xs : List JSt} (h : CellsSt w (some ⟨b, o, none⟩) xs) (i : Nat) (hi : i < xs.length) :
    w.cell? ⟨b, o + i * 4, none⟩ = some (.int .i64 xs[i].st) ∧ w.cell? ⟨b, o + i * 4 + 1, none⟩ = some (.int .i64 xs[i].tries) ∧ w.cell? ⟨b, o + i * 4 + 2, none⟩ = some (.int .i64 xs[i].due) ∧ w.cell? ⟨b, o + i * 4 + 3, none⟩ = some (.int .i64 xs[i].code) :=
  ⟨h.at i hi 0 (by decide), h.at i hi 1 (by decide), h.at i hi 2 (by decide), h.at i hi 3 (by decide)⟩
theorem sizeTg : ∀ w, (Go.sizeOf 39).run Tryz.prog w = .ok 3 w := Tryz.sizeOf39
theorem sizeSt : ∀ w, (Go.sizeOf 41).run Tryz.prog w = .ok 4 w := Tryz.sizeOf41
theorem tg_size : (Tryz.prog.info? 39).map (·.size) = some 3 := by kernel_rfl
theorem st_size : (Tryz.prog.info? 41).map (·.size) = some 4 := by kernel_rfl
theorem ad_size : (Tryz.prog.info? 25).map (·.size) = some 2 := by kernel_rfl
theorem jb_size : (Tryz.prog.info? 29).map (·.size) = some 7 := by kernel_rfl

/-- a job -/
structure Jb where
  id : Int
  arr : Int
  fl : ByteArray
  fd : ByteArray
  to : List Tg
  sts : List JSt
  body : List Int
/-- where a job's rows lie -/
structure JA where
  ta : Option Addr
  tc : Nat
  sa : Option Addr
  sc : Nat
  ba : Option Addr
  bc : Nat
/-- a job's cells -/
abbrev jbC (j : Jb) (p : JA) : Array Value := #[.int .i64 j.id, .int .i64 j.arr, .string j.fl, .string j.fd, .slice p.ta j.to.length p.tc, .slice p.sa j.sts.length p.sc, .slice p.ba j.body.length p.bc]
/-- the rows of a job in memory -/
structure JobAt (w : World) (j : Jb) (p : JA) : Prop where
  to : CellsT w p.ta j.to
  sts : CellsSt w p.sa j.sts
  body : Cells8 w p.ba j.body
  tn : j.to.length ≤ p.tc
  sn : j.sts.length ≤ p.sc
  bn : j.body.length ≤ p.bc
theorem JobAt.quiet {w w' : World} {j : Jb} {p : JA} (h : JobAt w j p) (hm : Mod [] w w') : JobAt w' j p :=
  ⟨h.to.quiet tgC_size hm, h.sts.quiet stC_size hm, h.body.mod hm (by simp), h.tn, h.sn, h.bn⟩
def tgM (t : Tg) : JTg := ⟨t.user, nums t.l, nums t.d⟩
def jbE (j : Jb) : JEnv := ⟨j.id, j.arr, nums j.fl, nums j.fd, j.to.map tgM⟩
end Go.Proofs.YtbhdlclaooohfaaGreatDoor

/- Envel: between, GoodState, Fresh. -/
namespace Go.Proofs.YtbhdlclaooohfaaGreatDoor
open Go.ChangeShapes Go.WideShapes Go.ChangeAt Go.RowKit
set_option linter.unusedVariables false
set_option linter.unusedSimpArgs false

def btB (n lo hi : Int) : Bool := decide (lo ≤ n ∧ n ≤ hi)
theorem btB_iff {n lo hi : Int} : btB n lo hi = true ↔ lo ≤ n ∧ n ≤ hi := by simp [btB]
theorem between_any (n lo hi : Int) (w : World) : Calls Tryz.prog 30 #[.int .i64 n, .int .i64 lo, .int .i64 hi] w fun e w' => e = .returned (.bool (btB n lo hi)) ∧ w = w' := by
  go_enter Tryz.func30, Tryz.ntmps30
  go_wp2_with fail
  all_goals
    go_ret
    exact ⟨ret_bool (by rw [Bool.eq_iff_iff]; simp [btB, *]; try omega), rfl⟩
theorem between_is {n lo hi : Int} {b : Bool} (h : btB n lo hi = b) (w : World) : Calls Tryz.prog 30 #[.int .i64 n, .int .i64 lo, .int .i64 hi] w fun e w' => e = .returned (.bool b) ∧ w = w' := h ▸ between_any n lo hi w
def StP (b : Bool) (w : World) (e : Ending) (w' : World) : Prop := e = .returned (.bool b) ∧ Mod [] w w'
theorem stB_bt (s : JSt) : stB s = (btB s.st 0 3 && (btB s.tries 0 65535 && (btB s.due 0 4503599627370496 && (decide (s.code = 0) || btB s.code 200 599)))) := rfl
set_option maxHeartbeats 1000000 in
theorem goodState_any (s : JSt) (w : World) : Calls Tryz.prog 31 #[.agg (stC s)] w (StP (stB s) w) := by
  unfold StP
  have hrow := heap_alloc_new w (.cells (stC s) 41)
  have k0 := blk_cell hrow 0
  have k1 := blk_cell hrow 1
  have k2 := blk_cell hrow 2
  have k3 := blk_cell hrow 3
  clear hrow
  have HM := Lib.hid ((Mod.refl [] w).alloc (.cells (stC s) 41))
  have HR := Lib.hid (stB_bt s)
  cases h0 : btB s.st 0 3
  · rw [h0] at HR
    have HB := Lib.hid (between_is h0)
    clear h0
    go_enter Tryz.func31, Tryz.ntmps31
    go_wp2_with (go_at_call 30; (refine (HB.out _).mono ?_); rintro e w' ⟨rfl, rfl⟩)
    go_ret
    exact ⟨by rw [HR.out]; rfl, HM.out⟩
  cases h1 : btB s.tries 0 65535
  · rw [h0, h1] at HR
    have HB0 := Lib.hid (between_is h0)
    have HB1 := Lib.hid (between_is h1)
    clear h0 h1
    go_enter Tryz.func31, Tryz.ntmps31
    go_wp2_with (go_at_call 30; first | ((with_reducible refine (HB0.out _).mono ?_); rintro e w' ⟨rfl, rfl⟩) | ((with_reducible refine (HB1.out _).mono ?_); rintro e w' ⟨rfl, rfl⟩))
    go_ret
    exact ⟨by rw [HR.out]; rfl, HM.out⟩
  cases h2 : btB s.due 0 4503599627370496
  · rw [h0, h1, h2] at HR
    have HB0 := Lib.hid (between_is h0)
    have HB1 := Lib.hid (between_is h1)
    have HB2 := Lib.hid (between_is h2)
    clear h0 h1 h2
    go_enter Tryz.func31, Tryz.ntmps31
    go_wp2_with (go_at_call 30; first | ((with_reducible refine (HB0.out _).mono ?_); rintro e w' ⟨rfl, rfl⟩) | ((with_reducible refine (HB1.out _).mono ?_); rintro e w' ⟨rfl, rfl⟩) | ((with_reducible refine (HB2.out _).mono ?_); rintro e w' ⟨rfl, rfl⟩))
    go_ret
    exact ⟨by rw [HR.out]; rfl, HM.out⟩
  have HB0 := Lib.hid (between_is h0)
  have HB1 := Lib.hid (between_is h1)
  have HB2 := Lib.hid (between_is h2)
  by_cases h3 : s.code = 0
  · rw [h0, h1, h2, show decide (s.code = 0) = true by simp [h3]] at HR
    clear h0 h1 h2
    have h3' : (s.code == 0) = true := by simp [h3]
    clear h3
    go_enter Tryz.func31, Tryz.ntmps31
    go_wp2_with (go_at_call 30; first | ((with_reducible refine (HB0.out _).mono ?_); rintro e w' ⟨rfl, rfl⟩) | ((with_reducible refine (HB1.out _).mono ?_); rintro e w' ⟨rfl, rfl⟩) | ((with_reducible refine (HB2.out _).mono ?_); rintro e w' ⟨rfl, rfl⟩))
    go_ret
    exact ⟨by rw [HR.out]; rfl, HM.out⟩
  · have HB3 := Lib.hid (between_any s.code 200 599)
    rw [h0, h1, h2, show decide (s.code = 0) = false by simp [h3]] at HR
    clear h0 h1 h2
    have h3' : (s.code == 0) = false := by simp [h3]
    clear h3
    generalize btB s.code 200 599 = q at *
    go_enter Tryz.func31, Tryz.ntmps31
    go_wp2_with (go_at_call 30; first | ((with_reducible refine (HB0.out _).mono ?_); rintro e w' ⟨rfl, rfl⟩) | ((with_reducible refine (HB1.out _).mono ?_); rintro e w' ⟨rfl, rfl⟩) | ((with_reducible refine (HB2.out _).mono ?_); rintro e w' ⟨rfl, rfl⟩) | ((with_reducible refine (HB3.out _).mono ?_); rintro e w' ⟨rfl, rfl⟩))
    go_ret
    exact ⟨by rw [HR.out]; simp, HM.out⟩
theorem fresh_any (n : Int) (w : World) : Calls Tryz.prog 9 #[.int .i64 n] w fun e w' => e = .returned (.agg (stC (freshS n))) ∧ Mod [] w w' := by
  have h0 := heap_alloc_new w (.cells (stC ⟨0, 0, 0, 0⟩) 41)
  go_enter Tryz.func9, Tryz.ntmps9
  go_wp2_with fail
  refine bodyPost_ret (v := .agg (stC (freshS n))) (results_cell_row rfl _ _ w.heap.size 41 _ (0, 0) _ rfl (heap_alloc_new w _) Tryz.underlying41 rfl st_size) rfl ⟨rfl, (Mod.refl [] w).alloc _⟩
theorem goodState1_any (s : JSt) (w : World) : Calls Tryz.prog 41 #[.agg (stC s)] w (StP (!stB s) w) := by
  unfold StP
  have hrow := heap_alloc_new w (.cells (stC s) 41)
  have k0 := blk_cell hrow 0
  have k1 := blk_cell hrow 1
  have k2 := blk_cell hrow 2
  have k3 := blk_cell hrow 3
  clear hrow
  have HM := Lib.hid ((Mod.refl [] w).alloc (.cells (stC s) 41))
  have HG := Lib.hid (goodState_any s)
  unfold StP at HG
  generalize stB s = q at *
  go_enter Tryz.func41, Tryz.ntmps41
  go_wp2_with (go_at_call 31; (refine (HG.out _).mono ?_); rintro e w' ⟨rfl, hm⟩; have HM1 := Lib.hid (HM.out.trans hm); clear hm)
  go_ret
  exact ⟨rfl, HM1.out⟩
end Go.Proofs.YtbhdlclaooohfaaGreatDoor

/- Envel: IndexFunc and ContainsFunc over states, Done. -/
namespace Go.Proofs.YtbhdlclaooohfaaGreatDoor
open Go.Shelf Go.ChangeShapes Go.WideShapes Go.ChangeAt Go.RowKit
set_option linter.unusedVariables false
set_option linter.unusedSimpArgs false

theorem ne_take_any {p : JSt → Bool} {xs : List JSt} {k : Nat} (h : (xs.take k).any p = false) (hk : k < xs.length) (hb : p xs[k] = false) : (xs.take (k + 1)).any p = false := by
  rw [List.take_succ_eq_append_getElem hk, List.any_append, h]; simp [hb]
theorem ne_any_at {p : JSt → Bool} {xs : List JSt} {k : Nat} (hk : k < xs.length) (hb : p xs[k] = true) : xs.any p = true := by
  rw [List.any_eq_true]; exact ⟨xs[k], List.getElem_mem hk, hb⟩
def IdxP (r : Bool) (w : World) (e : Ending) (w' : World) : Prop := ∃ i : Int, e = .returned (.int .i64 i) ∧ decide (0 ≤ i) = r ∧ Mod [] w w'
set_option maxHeartbeats 1000000 in
theorem indexFunc_any (p : JSt → Bool) (f : Nat) (hent : Enters Tryz.prog f) (hC : ∀ s W, Calls Tryz.prog f #[.agg (stC s)] W (StP (p s) W)) (w : World) (a : Option Addr) (n cap : Nat) (xs : List JSt) (h : CellsSt w a xs) (hn : n = xs.length) (hl : n ≤ 1000000) :
    Calls Tryz.prog 52 #[.slice a n cap, .func (.func f) #[] #[]] w (IdxP (xs.any p) w) := by
  have H := Lib.hid h
  have HN := Lib.hid hn
  have hent' : ∀ args w, (callFunc f args).run Tryz.prog w = .ok (.enter f args) w := hent
  have HC := Lib.hid hC
  unfold StP at HC
  have HR := Lib.hid (Eq.refl (xs.any p))
  clear h hn hent hC
  unfold IdxP
  go_enter Tryz.func52, Tryz.ntmps52
  go_wp2_with fail
  go_loopw [8] (fun v wr => ∃ k : Nat, v = .int .i64 k ∧ k ≤ n ∧ (xs.take k).any p = false ∧ Mod [] w wr) (fun v _ => n - (intOf v).toNat)
  case atStart => exact ⟨0, rfl, Nat.zero_le _, by simp, Mod.refl _ _⟩
  case round =>
    obtain ⟨k, rfl, hk, hno, hm⟩ := hrel
    have HNo := Lib.hid hno
    have HM := Lib.hid hm
    clear hno hm
    by_cases hlt : k < n
    · have hkf : k < xs.length := by rw [← HN.out]; exact hlt
      obtain ⟨b, o, rfl, -⟩ := H.out.addr stC_size (by decide) (by omega)
      obtain ⟨k0, k1, k2, k3⟩ := CellsSt.row (H.out.quiet stC_size HM.out) k hkf
      have hix := ixa (P := Tryz.prog) 27 41 Tryz.underlying27 4 sizeSt _ b o n cap k rfl hlt
      obtain ⟨x, hx⟩ : ∃ x, xs[k] = x := ⟨_, rfl⟩
      rw [hx] at k0 k1 k2 k3
      have HNo2 := Lib.hid (fun hb : p x = false => ne_take_any HNo.out hkf (by rw [hx]; exact hb))
      have HYe := Lib.hid (fun hb : p x = true => ne_any_at (p := p) hkf (by rw [hx]; exact hb))
      have HCx := Lib.hid (HC.out x)
      clear hkf hx
      cases hb : p x with
      | false =>
        rw [hb] at HCx
        have HN2 := Lib.hid (HNo2.out hb)
        clear hb
        go_wp2_with ((with_reducible refine (HCx.out _).mono ?_); rintro e w1 ⟨rfl, hm1⟩; have HM1 := Lib.hid (HM.out.trans hm1); clear hm1)
        go_roundw
        case rel => exact ⟨k + 1, by go_num, by omega, HN2.out, HM1.out⟩
        case measure => simp [intOf]; omega
      | true =>
        rw [hb] at HCx
        have HN2 := Lib.hid (HYe.out hb)
        clear hb
        go_wp2_with ((with_reducible refine (HCx.out _).mono ?_); rintro e w1 ⟨rfl, hm1⟩; have HM1 := Lib.hid (HM.out.trans hm1); clear hm1)
        go_ret
        exact ⟨k, rfl, by rw [HN2.out]; simp, HM1.out⟩
    · have hkl : k = n := by omega
      have HAll := Lib.hid (show xs.any p = false by
        have := HNo.out
        rwa [hkl, HN.out, List.take_length] at this)
      clear hk
      go_wp2_with fail
      go_ret
      exact ⟨-1, rfl, by rw [HAll.out]; simp, HM.out⟩
theorem containsFunc_any (p : JSt → Bool) (f : Nat) (hent : Enters Tryz.prog f) (hC : ∀ s W, Calls Tryz.prog f #[.agg (stC s)] W (StP (p s) W)) (w : World) (a : Option Addr) (n cap : Nat) (xs : List JSt) (h : CellsSt w a xs) (hn : n = xs.length) (hl : n ≤ 1000000) :
    Calls Tryz.prog 32 #[.slice a n cap, .func (.func f) #[] #[]] w (StP (xs.any p) w) := by
  have HI := Lib.hid (indexFunc_any p f hent hC w a n cap xs h hn hl)
  unfold IdxP at HI
  clear hent hC h hn
  unfold StP
  generalize xs.any p = r at *
  go_enter Tryz.func32, Tryz.ntmps32
  go_wp2_with (go_at_call 52; (refine HI.out.mono ?_); rintro e w' ⟨i, rfl, hi, hm⟩; have HX := Lib.hid hi; have HM1 := Lib.hid hm; clear hi hm)
  go_ret
  exact ⟨ret_bool HX.out, HM1.out⟩
set_option maxRecDepth 100000 in
theorem enters_good1 : Enters Tryz.prog 41 := fun _ _ => rfl
set_option maxRecDepth 100000 in
theorem enters_done1 : Enters Tryz.prog 33 := fun _ _ => rfl
theorem done1_any (s : JSt) (w : World) : Calls Tryz.prog 33 #[.agg (stC s)] w (StP (s.st == 0) w) := by
  unfold StP
  have hrow := heap_alloc_new w (.cells (stC s) 41)
  have k0 := blk_cell hrow 0
  clear hrow
  have HM := Lib.hid ((Mod.refl [] w).alloc (.cells (stC s) 41))
  go_enter Tryz.func33, Tryz.ntmps33
  go_wp2_with fail
  go_ret
  exact ⟨rfl, HM.out⟩
set_option maxHeartbeats 1000000 in
theorem done_job (w : World) (j : Jb) (p : JA) (h : JobAt w j p) (hs : j.sts.length ≤ 1000000) : Calls Tryz.prog 12 #[.agg (jbC j p)] w (StP (!j.sts.any (fun s => s.st == 0)) w) := by
  unfold StP
  have hrow := heap_alloc_new w (.cells (jbC j p) 29)
  have k5 := blk_cell hrow 5
  clear hrow
  have hm := (Mod.refl [] w).alloc (.cells (jbC j p) 29)
  have HC := Lib.hid (containsFunc_any _ _ enters_done1 done1_any _ p.sa j.sts.length p.sc j.sts (h.quiet hm).sts rfl hs)
  unfold StP at HC
  have HM := Lib.hid hm
  clear hm h
  generalize j.sts.any _ = r at *
  go_enter Tryz.func12, Tryz.ntmps12
  go_wp2_with (go_at_call 32; (refine HC.out.mono ?_); rintro e w' ⟨rfl, hm⟩; have HM1 := Lib.hid (HM.out.trans hm); clear hm)
  go_ret
  exact ⟨rfl, HM1.out⟩
end Go.Proofs.YtbhdlclaooohfaaGreatDoor

