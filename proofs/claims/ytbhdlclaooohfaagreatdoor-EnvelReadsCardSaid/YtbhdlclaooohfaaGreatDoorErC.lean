import Derived.Test.YtbhdlclaooohfaaGreatDoorEvR
import Derived.Test.YtbhdlclaooohfaaGreatDoorArC
/- Envel: the document's reader beside the code's, as mathematics. -/
namespace Go.Proofs.YtbhdlclaooohfaaGreatDoor
open Go.Maps Go.Shelf Go.Proofs.YtbhdlclaooohfaaGreatDoor.Ad Go.ChangeShapes Go.WideShapes Go.ChangeAt Go.RowKit
set_option linter.unusedVariables false
set_option linter.unusedSimpArgs false

def clip (v : Int) : Int := if 9223372036854775807 < v then 9223372036854775807 else v
def nmC (l : List Int) (s : RdS) (k : Nat) : Int := clip (nmR l s k)
def txB (l : List Int) (s : RdS) : ByteArray := strOfNums (txR l s)
def rtX (l : List Int) (s : RdS) : Tg := ⟨nmC l s 2, txB l (nmS l s 2), txB l (txS l (nmS l s 2))⟩
def rtsX (l : List Int) : Nat → RdS → List Tg
  | 0, _ => []
  | n + 1, s => rtX l s :: rtsX l n (tgS l s)
theorem rtsX_snoc (l : List Int) : ∀ (n : Nat) (s : RdS), rtsX l (n + 1) s = rtsX l n s ++ [rtX l (tosS l n s)] := by
  intro n
  induction n with
  | zero => intro s; rfl
  | succ n ih =>
    intro s
    show rtX l s :: rtsX l (n + 1) (tgS l s) = (rtX l s :: rtsX l n (tgS l s)) ++ [rtX l (tosS l n (tgS l s))]
    rw [ih]; rfl
theorem rtsX_length (l : List Int) : ∀ (n : Nat) (s : RdS), (rtsX l n s).length = n := by
  intro n
  induction n with
  | zero => intro s; rfl
  | succ n ih => intro s; simp [rtsX, ih]
def rN (l : List Int) : Nat := (nmC l (hd4 l) 1).toNat
def rJ (l : List Int) : Jb := ⟨nmC l ⟨0, false⟩ 8, nmC l (hd1 l) 8, txB l (hd2 l), txB l (hd3 l), rtsX l (rN l) (hd5 l), [], []⟩
def rS (l : List Int) : RdS := tosS l (rN l) (hd5 l)
def rB (l : List Int) : Bool := !(rS l).bad && decide ((rS l).at_ = l.length)
def envJ (j : Jb) : Bool := btB j.id 1 1099511627776 && (btB j.arr 0 4503599627370496 && (fromB j.fl j.fd && tgsB j.to))

/-- the two readers stand at one place, or both have failed -/
def Ag (p : List Int) (c : Cr) (s : RdS) : Prop := (c.e = 0 ∧ s.bad = false ∧ c.l = p.drop s.at_ ∧ s.at_ ≤ p.length) ∨ (c.e ≠ 0 ∧ s.bad = true)
theorem Ag.start (p : List Int) : Ag p ⟨p, 0⟩ ⟨0, false⟩ := .inl ⟨rfl, rfl, rfl, Nat.zero_le _⟩
theorem cUs_err {c : Cr} (h : c.e ≠ 0) (k : Int) : (cUs c k).e ≠ 0 := by
  show srcUE c.l c.e k ≠ 0
  unfold srcUE; rw [if_pos h]; exact h
theorem cTs_err {c : Cr} (h : c.e ≠ 0) : (cTs c).e ≠ 0 := by
  show srcTE c.l c.e 64 ≠ 0
  unfold srcTE; rw [if_pos h]; exact h
theorem tcN_err {c : Cr} (h : c.e ≠ 0) : (tcN c).e ≠ 0 := cTs_err (cTs_err (cUs_err h 2))
theorem tcsN_err : ∀ (n : Nat) {c : Cr}, c.e ≠ 0 → (tcsN n c).e ≠ 0
  | 0, c, h => h
  | n + 1, c, h => tcsN_err n (tcN_err h)
theorem cB_err {c : Cr} (h : c.e ≠ 0) : cB c = false := by
  unfold cB doneE
  rw [if_neg (by intro h'; exact h h'.1)]
  simpa using h
theorem nm_ag {p : List Int} {c : Cr} {s : RdS} (h : Ag p c s) (k : Nat) (hk : sizedB (k : Int) = true) : Ag p (cUs c k) (nmS p s k) ∧ nmR p s k = cU c k := by
  rcases h with ⟨h1, h2, h3, h4⟩ | ⟨h1, h2⟩
  · have hl : c.l.length = p.length - s.at_ := by rw [h3, List.length_drop]
    by_cases hs : p.length < s.at_ + k
    · have hE : srcUE c.l c.e k = 2 := by
        unfold srcUE
        rw [if_neg (by rw [h1]; simp), if_neg (by rw [hk]; simp), if_pos (by omega)]
      refine ⟨.inr ⟨by show srcUE c.l c.e k ≠ 0; rw [hE]; decide, by unfold nmS; rw [if_pos (.inr hs)]⟩, ?_⟩
      unfold nmR cU srcUV
      rw [if_pos (.inr hs), hE]; rfl
    · have hE : srcUE c.l c.e k = 0 := by
        unfold srcUE
        rw [if_neg (by rw [h1]; simp), if_neg (by rw [hk]; simp), if_neg (by omega)]
      have hn : ¬ (s.bad = true ∨ p.length < s.at_ + k) := by rw [h2]; simp; omega
      refine ⟨.inl ⟨by show srcUE c.l c.e k = 0; exact hE, by unfold nmS; rw [if_neg hn], ?_, by unfold nmS; rw [if_neg hn]; show s.at_ + k ≤ _; omega⟩, ?_⟩
      · show srcUL c.l c.e k = _
        unfold srcUL nmS
        rw [if_pos hE, if_neg hn, h3, List.drop_drop]; rfl
      · unfold nmR cU srcUV
        rw [if_neg hn, if_pos hE, h3]; rfl
  · have hE : srcUE c.l c.e k ≠ 0 := cUs_err h1 k
    refine ⟨.inr ⟨hE, by unfold nmS; rw [if_pos (.inl h2)]⟩, ?_⟩
    unfold nmR cU srcUV
    rw [if_pos (.inl h2), if_neg hE]
theorem tx_ag {p : List Int} (hb : Bytes p) {c : Cr} {s : RdS} (h : Ag p c s) : (Ag p (cTs c) (txS p s) ∧ txR p s = cT c) ∨ ((cTs c).e ≠ 0 ∧ 64 < (txR p s).length) := by
  have hA := h
  obtain ⟨hn1, hn2⟩ := nm_ag h 4 rfl
  rcases h with ⟨h1, h2, h3, h4⟩ | ⟨h1, h2⟩
  · have hl : c.l.length = p.length - s.at_ := by rw [h3, List.length_drop]
    by_cases hs : p.length < s.at_ + 4
    · have hS : nmS p s 4 = ⟨s.at_, true⟩ := by unfold nmS; rw [if_pos (.inr hs)]
      have hE : srcTE c.l c.e 64 = 2 := by
        unfold srcTE
        rw [if_neg (by rw [h1]; simp), if_pos (by omega)]
      refine .inl ⟨.inr ⟨by show srcTE c.l c.e 64 ≠ 0; rw [hE]; decide, by unfold txS; rw [if_pos (.inl (by rw [hS]))]⟩, ?_⟩
      unfold txR cT srcTV
      rw [if_pos (.inl (by rw [hS])), hE]; rfl
    · have hn : ¬ (s.bad = true ∨ p.length < s.at_ + 4) := by rw [h2]; simp; omega
      have hS : nmS p s 4 = ⟨s.at_ + 4, false⟩ := by unfold nmS; rw [if_neg hn]
      have hN : nmR p s 4 = srcTN c.l := by unfold nmR srcTN; rw [if_neg hn, h3]
      have h0 : 0 ≤ srcTN c.l := by
        unfold srcTN
        rw [h3]
        exact (val_bound _ ((hb.drop _).take _)).1
      by_cases hf : p.length < s.at_ + 4 + (srcTN c.l).toNat
      · have hE : srcTE c.l c.e 64 ≠ 0 := by
          unfold srcTE
          rw [if_neg (by rw [h1]; simp), if_neg (by omega)]
          split
          · decide
          · rw [if_pos (by omega)]; decide
        have hx : (nmS p s 4).bad = true ∨ p.length < (nmS p s 4).at_ + (nmR p s 4).toNat := .inr (by rw [hS, hN]; exact hf)
        refine .inl ⟨.inr ⟨hE, by unfold txS; rw [if_pos hx]⟩, ?_⟩
        unfold txR cT srcTV
        rw [if_pos hx, if_neg hE]
      · have hx : ¬ ((nmS p s 4).bad = true ∨ p.length < (nmS p s 4).at_ + (nmR p s 4).toNat) := by rw [hS, hN]; simp; omega
        have hR : txR p s = (p.drop (s.at_ + 4)).take (srcTN c.l).toNat := by
          unfold txR
          rw [if_neg hx, hS, hN]
        by_cases hm : 64 < srcTN c.l
        · refine .inr ⟨?_, ?_⟩
          · show srcTE c.l c.e 64 ≠ 0
            unfold srcTE
            rw [if_neg (by rw [h1]; simp), if_neg (by omega), if_pos hm]; decide
          · rw [hR, List.length_take, List.length_drop]; omega
        · have hE : srcTE c.l c.e 64 = 0 := by
            unfold srcTE
            rw [if_neg (by rw [h1]; simp), if_neg (by omega), if_neg hm, if_neg (by omega)]
          refine .inl ⟨.inl ⟨hE, by unfold txS; rw [if_neg hx], ?_, by unfold txS; rw [if_neg hx, hS, hN]; show s.at_ + 4 + _ ≤ _; omega⟩, ?_⟩
          · show srcTL c.l c.e 64 = _
            unfold srcTL txS
            rw [if_pos hE, if_neg hx, hS, hN, h3, List.drop_drop]
            show p.drop (s.at_ + (4 + _)) = p.drop (s.at_ + 4 + _)
            rw [Nat.add_assoc]
          · rw [hR]
            unfold cT srcTV
            rw [if_pos hE, h3, List.drop_drop]
  · have hE : srcTE c.l c.e 64 ≠ 0 := cTs_err h1
    have hS : (nmS p s 4).bad = true := by unfold nmS; rw [if_pos (.inl h2)]
    refine .inl ⟨.inr ⟨hE, by unfold txS; rw [if_pos (.inl hS)]⟩, ?_⟩
    unfold txR cT srcTV
    rw [if_pos (.inl hS), if_neg hE]
theorem Ag.fin {p : List Int} {c : Cr} {s : RdS} (h : Ag p c s) : cB c = (!s.bad && decide (s.at_ = p.length)) := by
  rcases h with ⟨h1, h2, h3, h4⟩ | ⟨h1, h2⟩
  · have hl : c.l.length = p.length - s.at_ := by rw [h3, List.length_drop]
    unfold cB doneE
    rw [h2, h1]
    by_cases he : s.at_ = p.length
    · rw [if_neg (by omega)]; simp [he]
    · rw [if_pos ⟨rfl, by omega⟩]; simp [he]
  · rw [cB_err h1, h2]; rfl
theorem Ag.bytes {p : List Int} (hb : Bytes p) {c : Cr} {s : RdS} (h : Ag p c s) : c.e = 0 → Bytes c.l := by
  rcases h with ⟨h1, h2, h3, h4⟩ | ⟨h1, h2⟩
  · intro _; rw [h3]; exact hb.drop _
  · intro h; exact absurd h h1
theorem nmR_bound {p : List Int} (hb : Bytes p) (s : RdS) (k : Nat) (hk : k ≤ 8) : 0 ≤ nmR p s k ∧ nmR p s k < 18446744073709551616 := by
  unfold nmR
  split
  · omega
  · have h := val_bound _ ((hb.drop s.at_).take k)
    have hl : ((p.drop s.at_).take k).length ≤ 8 := by simp; omega
    have h2 : (256 : Int) ^ ((p.drop s.at_).take k).length ≤ 18446744073709551616 := by
      match h3 : ((p.drop s.at_).take k).length, hl with
      | 0, _ | 1, _ | 2, _ | 3, _ | 4, _ | 5, _ | 6, _ | 7, _ | 8, _ => decide
    omega
theorem nmR_small {p : List Int} (hb : Bytes p) (s : RdS) (k : Nat) (hk : k ≤ 4) : 0 ≤ nmR p s k ∧ nmR p s k < 4294967296 := by
  unfold nmR
  split
  · omega
  · have h := val_bound _ ((hb.drop s.at_).take k)
    have hl : ((p.drop s.at_).take k).length ≤ 4 := by simp; omega
    have h2 : (256 : Int) ^ ((p.drop s.at_).take k).length ≤ 4294967296 := by
      match h3 : ((p.drop s.at_).take k).length, hl with
      | 0, _ | 1, _ | 2, _ | 3, _ | 4, _ => decide
    omega
theorem nmC_small {p : List Int} (hb : Bytes p) (s : RdS) (k : Nat) (hk : k ≤ 4) : nmC p s k = nmR p s k := by
  have := nmR_small hb s k hk
  unfold nmC clip
  rw [if_neg (by omega)]
theorem wr_small {v : Int} (h0 : 0 ≤ v) (h1 : v < 4294967296) : wr64 v = v := IntWalk.i64_in _ ⟨by omega, by omega⟩
/-- a number of eight bytes: both make of it the same where it is small -/
theorem eightN {v : Int} (h0 : 0 ≤ v) (h1 : v < 18446744073709551616) (lo hi : Int) (hlo : 0 ≤ lo) (hhi : hi < 9223372036854775807) : btB (clip v) lo hi = btB (wr64 v) lo hi ∧ (btB (clip v) lo hi = true → clip v = wr64 v) := by
  by_cases h : v ≤ 9223372036854775807
  · have h2 : wr64 v = v := IntWalk.i64_in _ ⟨by omega, by omega⟩
    have h3 : clip v = v := by unfold clip; rw [if_neg (by omega)]
    rw [h2, h3]; exact ⟨rfl, fun _ => rfl⟩
  · have h3 : clip v = 9223372036854775807 := by unfold clip; rw [if_pos (by omega)]
    have h2 : wr64 v = v - 18446744073709551616 := by
      show IntKind.i64.wrap v = _
      unfold IntKind.wrap
      simp [IntKind.bits, IntKind.signed]
      omega
    have e1 : btB (clip v) lo hi = false := by rw [h3]; unfold btB; simp; omega
    have e2 : btB (wr64 v) lo hi = false := by rw [h2]; unfold btB; simp; omega
    rw [e1, e2]; exact ⟨rfl, by simp⟩
end Go.Proofs.YtbhdlclaooohfaaGreatDoor

/- Envel: the document's in, GoodState, num and text. -/
namespace Go.Proofs.YtbhdlclaooohfaaGreatDoor
open Go.Maps Go.Shelf Go.Proofs.YtbhdlclaooohfaaGreatDoor.Ad Go.ChangeShapes Go.WideShapes Go.ChangeAt Go.RowKit
set_option linter.unusedVariables false
set_option linter.unusedSimpArgs false

theorem rin_any (n lo hi : Int) (w : World) : Calls Tryz.prog 44 #[.int .i64 n, .int .i64 lo, .int .i64 hi] w fun e w' => e = .returned (.bool (btB n lo hi)) ∧ w = w' := by
  go_enter Tryz.func44, Tryz.ntmps44
  go_wp2_with fail
  all_goals
    go_ret
    exact ⟨ret_bool (by rw [Bool.eq_iff_iff]; simp [btB, *]; try omega), rfl⟩
theorem rin_is {n lo hi : Int} {b : Bool} (h : btB n lo hi = b) (w : World) : Calls Tryz.prog 44 #[.int .i64 n, .int .i64 lo, .int .i64 hi] w fun e w' => e = .returned (.bool b) ∧ w = w' := h ▸ rin_any n lo hi w
set_option maxHeartbeats 1000000 in
theorem rgoodState_any (s : JSt) (w : World) : Calls Tryz.prog 22 #[.agg (stC s)] w (StP (stB s) w) := by
  unfold StP
  have hrow := heap_alloc_new w (.cells (stC s) 41)
  have k0 := blk_cell hrow 0
  have k1 := blk_cell hrow 1
  have k2 := blk_cell hrow 2
  have k3 := blk_cell hrow 3
  clear hrow
  have HM := Lib.hid ((Mod.refl [] w).alloc (.cells (stC s) 41))
  have HR := Lib.hid (stB_bt s)
  cases h0 : btB s.st 0 3
  · rw [h0] at HR
    have HB := Lib.hid (rin_is h0)
    clear h0
    go_enter Tryz.func22, Tryz.ntmps22
    go_wp2_with (go_at_call 44; (refine (HB.out _).mono ?_); rintro e w' ⟨rfl, rfl⟩)
    go_ret
    exact ⟨by rw [HR.out]; rfl, HM.out⟩
  cases h1 : btB s.tries 0 65535
  · rw [h0, h1] at HR
    have HB0 := Lib.hid (rin_is h0)
    have HB1 := Lib.hid (rin_is h1)
    clear h0 h1
    go_enter Tryz.func22, Tryz.ntmps22
    go_wp2_with (go_at_call 44; first | ((with_reducible refine (HB0.out _).mono ?_); rintro e w' ⟨rfl, rfl⟩) | ((with_reducible refine (HB1.out _).mono ?_); rintro e w' ⟨rfl, rfl⟩))
    go_ret
    exact ⟨by rw [HR.out]; rfl, HM.out⟩
  cases h2 : btB s.due 0 4503599627370496
  · rw [h0, h1, h2] at HR
    have HB0 := Lib.hid (rin_is h0)
    have HB1 := Lib.hid (rin_is h1)
    have HB2 := Lib.hid (rin_is h2)
    clear h0 h1 h2
    go_enter Tryz.func22, Tryz.ntmps22
    go_wp2_with (go_at_call 44; first | ((with_reducible refine (HB0.out _).mono ?_); rintro e w' ⟨rfl, rfl⟩) | ((with_reducible refine (HB1.out _).mono ?_); rintro e w' ⟨rfl, rfl⟩) | ((with_reducible refine (HB2.out _).mono ?_); rintro e w' ⟨rfl, rfl⟩))
    go_ret
    exact ⟨by rw [HR.out]; rfl, HM.out⟩
  have HB0 := Lib.hid (rin_is h0)
  have HB1 := Lib.hid (rin_is h1)
  have HB2 := Lib.hid (rin_is h2)
  by_cases h3 : s.code = 0
  · rw [h0, h1, h2, show decide (s.code = 0) = true by simp [h3]] at HR
    clear h0 h1 h2
    have h3' : (s.code == 0) = true := by simp [h3]
    clear h3
    go_enter Tryz.func22, Tryz.ntmps22
    go_wp2_with (go_at_call 44; first | ((with_reducible refine (HB0.out _).mono ?_); rintro e w' ⟨rfl, rfl⟩) | ((with_reducible refine (HB1.out _).mono ?_); rintro e w' ⟨rfl, rfl⟩) | ((with_reducible refine (HB2.out _).mono ?_); rintro e w' ⟨rfl, rfl⟩))
    go_ret
    exact ⟨by rw [HR.out]; rfl, HM.out⟩
  · have HB3 := Lib.hid (rin_any s.code 200 599)
    rw [h0, h1, h2, show decide (s.code = 0) = false by simp [h3]] at HR
    clear h0 h1 h2
    have h3' : (s.code == 0) = false := by simp [h3]
    clear h3
    generalize btB s.code 200 599 = q at *
    go_enter Tryz.func22, Tryz.ntmps22
    go_wp2_with (go_at_call 44; first | ((with_reducible refine (HB0.out _).mono ?_); rintro e w' ⟨rfl, rfl⟩) | ((with_reducible refine (HB1.out _).mono ?_); rintro e w' ⟨rfl, rfl⟩) | ((with_reducible refine (HB2.out _).mono ?_); rintro e w' ⟨rfl, rfl⟩) | ((with_reducible refine (HB3.out _).mono ?_); rintro e w' ⟨rfl, rfl⟩))
    go_ret
    exact ⟨by rw [HR.out]; simp, HM.out⟩

abbrev rrC (a : Option Addr) (n c : Nat) (s : RdS) : Array Value := #[.slice a n c, .int .i64 s.at_, .bool s.bad]
/-- the document's reader at block rb -/
structure RR (B : Nat) (w : World) (rb : Nat) (a : Option Addr) (n c : Nat) (p : List Int) (s : RdS) : Prop where
  row : w.heap[rb]? = some (.cells (rrC a n c s) 58 (0, 0))
  pay : Pay B w a p
  n : n = p.length
  c : p.length ≤ c
  le : s.at_ ≤ p.length
  small : p.length ≤ 1000000
theorem nmS_le {p : List Int} {s : RdS} {k : Nat} (h : s.at_ ≤ p.length) : (nmS p s k).at_ ≤ p.length := by
  unfold nmS
  split
  · exact h
  · rename_i h1; show s.at_ + k ≤ _; omega
theorem txS_le {p : List Int} {s : RdS} (h : s.at_ ≤ p.length) : (txS p s).at_ ≤ p.length := by
  unfold txS
  split
  · exact nmS_le h
  · rename_i h1; show (nmS p s 4).at_ + _ ≤ _; omega
theorem RR.notU {B : Nat} {w : World} {rb : Nat} {a : Option Addr} {n c : Nat} {p : List Int} {s : RdS} (h : RR B w rb a n c p s) {t : TypeId} (hne : 58 ≠ t) : ¬ IsT t w rb := ne_type h.row hne
theorem RR.mod {B : Nat} {w w' : World} {rb : Nat} {a : Option Addr} {n c : Nat} {p : List Int} {s : RdS} {F : List Nat} (h : RR B w rb a n c p s) (hm : Mod F w w') (hF : ∀ x ∈ F, x ≠ rb ∧ ¬ IsT 5 w x) : RR B w' rb a n c p s :=
  ⟨hm.row h.row (fun hx => (hF _ hx).1 rfl), h.pay.mod hm (fun x _ hx hc => (hF x hx).2 hc), h.n, h.c, h.le, h.small⟩
theorem RR.store {B : Nat} {w w' : World} {rb : Nat} {a : Option Addr} {n c : Nat} {p : List Int} {s s' : RdS} (h : RR B w rb a n c p s) (hm : Mod [rb] w w') (hr : w'.heap[rb]? = some (.cells (rrC a n c s') 58 (0, 0))) (hl : s'.at_ ≤ p.length) : RR B w' rb a n c p s' :=
  ⟨hr, h.pay.mod hm (fun x _ hx hc => by simp at hx; subst hx; exact h.notU (by decide) hc), h.n, h.c, hl, h.small⟩
def NumP (B : Nat) (rb : Nat) (a : Option Addr) (n c : Nat) (p : List Int) (v : Int) (s' : RdS) (w : World) (e : Ending) (w' : World) : Prop := e = .returned (.int .i64 v) ∧ RR B w' rb a n c p s' ∧ Mod [rb] w w'
set_option maxHeartbeats 2000000 in
theorem rnum_any {B : Nat} {w : World} {rb : Nat} {a : Option Addr} {n c : Nat} {p : List Int} {s : RdS} (h : RR B w rb a n c p s) (k : Nat) (hk : sizedB (k : Int) = true) :
    Calls Tryz.prog 19 #[.pointer (some ⟨rb, 0, none⟩), .int .i64 k] w (NumP B rb a n c p (nmC p s k) (nmS p s k) w) := by
  have hrow := h.row
  have k0 := blk_cell hrow 0
  have k1 := blk_cell hrow 1
  have k2 := blk_cell hrow 2
  have y1 := blk_free hrow 1
  have y2 := blk_free hrow 2
  have hb := h.pay.1.1
  have hle := h.le
  have hsm := h.small
  have hm0 : Mod [] w w.drew := (Mod.refl [] w).drew
  have hG := rget_any a p c s.at_ k w.drew (h.pay.1.mod hm0 (by simp)) (by omega) n h.n
  clear hm0
  have hkn := sized_iff.1 hk
  have HSt := Lib.hid (fun (s' : RdS) (w' : World) (hm : Mod [rb] w w') (hr : w'.heap[rb]? = some (.cells (rrC a n c s') 58 (0, 0))) hl => h.store (s' := s') hm hr hl)
  have HL := Lib.hid hle
  have HRow := Lib.hid hrow
  have hbnd := nmR_bound hb s k (by omega)
  have HgB : Hid (getB p s.at_ k = decide (s.at_ + k ≤ p.length)) := Lib.hid (by
    unfold getB; rw [hk]; simp; omega)
  have HgR : Hid (¬ (s.bad = true ∨ p.length < s.at_ + k) → getR p s.at_ k = nmR p s k) := Lib.hid (by
    intro hn
    unfold getR nmR
    rw [HgB.out, if_pos (by simp; omega), if_neg hn]; unfold getV; simp)
  have HUn : Hid (nmC p s k = clip (nmR p s k)) := Lib.hid rfl
  by_cases hn : s.bad = true ∨ p.length < s.at_ + k
  · have HS : Hid (nmS p s k = ⟨s.at_, true⟩) := Lib.hid (by unfold nmS; rw [if_pos hn])
    have HV : Hid (nmC p s k = 0) := Lib.hid (by rw [HUn.out]; unfold nmR; rw [if_pos hn]; decide)
    rw [HgB.out] at hG
    rw [HV.out, HS.out]
    have HG := Lib.hid hG
    by_cases hs : p.length < s.at_ + k
    · rw [show decide (s.at_ + k ≤ p.length) = false by simp; omega] at HG
      unfold NumP
      clear hrow hb hle hsm hG hkn hbnd hn hs h hk
      generalize getR p s.at_ k = gr at *
      obtain ⟨at_, bad⟩ := s
      simp only at *
      go_enter Tryz.func19, Tryz.ntmps19
      go_wp2_with fail
      go_region_with (go_at_call 43; (refine HG.out.mono ?_); rintro e w' ⟨rfl, rfl⟩)
      go_wp2_with fail
      all_goals
        go_ret
        refine ⟨rfl, ?_⟩
        have hm : Mod [rb] w ((w.setCell ⟨rb, 2, none⟩ (.bool true)).drew) := ((Mod.refl [rb] w).setCell (Or.inl (by simp)) _).drew
        exact ⟨HSt.out ⟨at_, true⟩ _ hm (blk_set (w := w) HRow.out 2 _) HL.out, hm⟩
    · rw [show decide (s.at_ + k ≤ p.length) = true by simp; omega] at HG
      have hbad : s.bad = true := by rcases hn with h | h; exact h; omega
      unfold NumP
      clear hrow hb hle hsm hG hkn hbnd hn hs h hk
      generalize getR p s.at_ k = gr at *
      obtain ⟨at_, bad⟩ := s
      simp only at *
      subst hbad
      go_enter Tryz.func19, Tryz.ntmps19
      go_wp2_with fail
      go_region_with (go_at_call 43; (refine HG.out.mono ?_); rintro e w' ⟨rfl, rfl⟩)
      go_wp2_with fail
      all_goals
        go_ret
        refine ⟨rfl, ?_⟩
        have hm : Mod [rb] w ((w.setCell ⟨rb, 2, none⟩ (.bool true)).drew) := ((Mod.refl [rb] w).setCell (Or.inl (by simp)) _).drew
        exact ⟨HSt.out ⟨at_, true⟩ _ hm (blk_set (w := w) HRow.out 2 _) HL.out, hm⟩
  · have HS : Hid (nmS p s k = ⟨s.at_ + k, false⟩) := Lib.hid (by unfold nmS; rw [if_neg hn])
    have HL2 : Hid (s.at_ + k ≤ p.length) := Lib.hid (by omega)
    have hbad : s.bad = false := by cases hb : s.bad; rfl; exact absurd (.inl hb) hn
    rw [HgB.out, HgR.out hn, show decide (s.at_ + k ≤ p.length) = true by simp; omega] at hG
    rw [HUn.out, HS.out]
    have HG := Lib.hid hG
    have hwr : IntKind.i64.wrap ((s.at_ : Int) + (k : Int)) = ((s.at_ + k : Nat) : Int) := by rw [IntKind.wrap_i64]; omega
    unfold NumP
    clear hrow hle hsm hG hkn hn h hk HgB HgR HUn HS
    obtain ⟨at_, bad⟩ := s
    simp only at *
    subst hbad
    by_cases hbig : 9223372036854775807 < nmR p ⟨at_, false⟩ k
    · have HC : Hid (clip (nmR p ⟨at_, false⟩ k) = 9223372036854775807) := Lib.hid (by unfold clip; rw [if_pos hbig])
      rw [HC.out]
      generalize nmR p ⟨at_, false⟩ k = v at *
      go_enter Tryz.func19, Tryz.ntmps19
      go_wp2_with fail
      go_region_with (go_at_call 43; (refine HG.out.mono ?_); rintro e w' ⟨rfl, rfl⟩)
      go_wp2_with fail
      all_goals
        go_ret
        have hm : Mod [rb] w ((w.setCell ⟨rb, 1, none⟩ (.int .i64 ((at_ : Int) + (k : Int)))).drew) := ((Mod.refl [rb] w).setCell (Or.inl (by simp)) _).drew
        have hr : ((w.setCell ⟨rb, 1, none⟩ (.int .i64 ((at_ : Int) + (k : Int)))).drew).heap[rb]? = some (.cells (rrC a n c ⟨at_ + k, false⟩) 58 (0, 0)) := (blk_set (w := w) HRow.out 1 _).trans (by simp)
        exact ⟨by first | rfl | rw [hw2], HSt.out ⟨at_ + k, false⟩ _ hm hr HL2.out, hm⟩
    · have HC : Hid (clip (nmR p ⟨at_, false⟩ k) = nmR p ⟨at_, false⟩ k) := Lib.hid (by unfold clip; rw [if_neg hbig])
      rw [HC.out]
      generalize nmR p ⟨at_, false⟩ k = v at *
      have hw2 : IntKind.i64.wrap v = v := IntWalk.i64_in _ ⟨by omega, by omega⟩
      go_enter Tryz.func19, Tryz.ntmps19
      go_wp2_with fail
      go_region_with (go_at_call 43; (refine HG.out.mono ?_); rintro e w' ⟨rfl, rfl⟩)
      go_wp2_with fail
      all_goals
        go_ret
        have hm : Mod [rb] w ((w.setCell ⟨rb, 1, none⟩ (.int .i64 ((at_ : Int) + (k : Int)))).drew) := ((Mod.refl [rb] w).setCell (Or.inl (by simp)) _).drew
        have hr : ((w.setCell ⟨rb, 1, none⟩ (.int .i64 ((at_ : Int) + (k : Int)))).drew).heap[rb]? = some (.cells (rrC a n c ⟨at_ + k, false⟩) 58 (0, 0)) := (blk_set (w := w) HRow.out 1 _).trans (by simp)
        exact ⟨by first | rfl | rw [hw2], HSt.out ⟨at_ + k, false⟩ _ hm hr HL2.out, hm⟩
end Go.Proofs.YtbhdlclaooohfaaGreatDoor

/- Envel: the document's text, env. -/
namespace Go.Proofs.YtbhdlclaooohfaaGreatDoor
open Go.Maps Go.Shelf Go.Proofs.YtbhdlclaooohfaaGreatDoor.Ad Go.ChangeShapes Go.WideShapes Go.ChangeAt Go.RowKit
set_option linter.unusedVariables false
set_option linter.unusedSimpArgs false

theorem RR.u8 {B : Nat} {w : World} {rb : Nat} {a : Option Addr} {n c : Nat} {p : List Int} {s : RdS} (h : RR B w rb a n c p s) : Cells8 w a p := h.pay.1
def TextP (B : Nat) (rb : Nat) (a : Option Addr) (n c : Nat) (p : List Int) (t : ByteArray) (s' : RdS) (w : World) (e : Ending) (w' : World) : Prop := e = .returned (.string t) ∧ RR B w' rb a n c p s' ∧ Mod [rb] w w'
theorem strOf_nil : strOfNums [] = (⟨#[]⟩ : ByteArray) := rfl
set_option maxRecDepth 100000 in
set_option maxHeartbeats 2000000 in
theorem rtext_any {B : Nat} {w : World} {rb : Nat} {a : Option Addr} {n c : Nat} {p : List Int} {s : RdS} (h : RR B w rb a n c p s) :
    Calls Tryz.prog 20 #[.pointer (some ⟨rb, 0, none⟩)] w (TextP B rb a n c p (txB p s) (txS p s) w) := by
  have hb := h.pay.1.1
  have HN := Lib.hid (rnum_any h 4 rfl)
  rw [nmC_small hb s 4 (by decide)] at HN
  unfold NumP at HN
  have hbnd := nmR_small hb s 4 (by decide)
  have hle := nmS_le (k := 4) h.le
  have hsm := h.small
  unfold TextP
  have HB : Hid (txB p s = strOfNums (txR p s)) := Lib.hid rfl
  have HR : Hid (txR p s = if (nmS p s 4).bad = true ∨ p.length < (nmS p s 4).at_ + (nmR p s 4).toNat then [] else (p.drop (nmS p s 4).at_).take (nmR p s 4).toNat) := Lib.hid rfl
  have HS : Hid (txS p s = if (nmS p s 4).bad = true ∨ p.length < (nmS p s 4).at_ + (nmR p s 4).toNat then ⟨(nmS p s 4).at_, true⟩ else ⟨(nmS p s 4).at_ + (nmR p s 4).toNat, false⟩) := Lib.hid rfl
  generalize nmS p s 4 = s1 at *
  obtain ⟨m, hm⟩ : ∃ m : Nat, nmR p s 4 = (m : Int) := ⟨_, (Int.toNat_of_nonneg hbnd.1).symm⟩
  rw [hm] at HN HR HS hbnd
  simp only [Int.toNat_natCast] at HR HS
  clear hm h
  obtain ⟨at_, bad⟩ := s1
  simp only at *
  rw [HB.out]
  have hmlt : m < 4294967296 := by omega
  clear hbnd
  have HLe := Lib.hid hle
  have HSm := Lib.hid hsm
  have HBy := Lib.hid hb
  clear hb HB
  cases bad
  · by_cases hs : p.length < at_ + m
    · rw [if_pos (.inr hs)] at HR HS
      rw [HR.out, HS.out]
      have HMl : Hid ((p.length : Int) - (at_ : Int) < (m : Int)) := Lib.hid (by omega)
      clear hle hsm hs HR HS
      go_enter Tryz.func20, Tryz.ntmps20
      go_wp2_with (go_at_call 19; (refine HN.out.mono ?_); rintro e w1 ⟨rfl, h1, hm1⟩; have H1 := Lib.hid h1; have HM1 := Lib.hid hm1; have hn := h1.n; have k0 := blk_cell h1.row 0; have k1 := blk_cell h1.row 1; have k2 := blk_cell h1.row 2; clear h1 hm1)
      subst hn
      have k0 : w1.cell? ⟨rb, 0, none⟩ = some (.slice a p.length c) := k0
      have k1 : w1.cell? ⟨rb, 1, none⟩ = some (.int .i64 at_) := k1
      have k2 : w1.cell? ⟨rb, 2, none⟩ = some (.bool false) := k2
      have hwr : IntKind.i64.wrap ((p.length : Int) - (at_ : Int)) = (p.length : Int) - (at_ : Int) := by rw [IntKind.wrap_i64]; have := HSm.out; have := HLe.out; omega
      have hgt : decide ((p.length : Int) - (at_ : Int) < (m : Int)) = true := by simp; exact HMl.out
      have hgt' := HMl.out
      go_region_held3 (fun W => W.cell? ⟨rb, 0, none⟩ = some (.slice a p.length c) ∧ W.cell? ⟨rb, 1, none⟩ = some (.int .i64 at_) ∧ W.cell? ⟨rb, 2, none⟩ = some (.bool false)) (exact ⟨k0, k1, k2⟩) (fail)
      have y2 := blk_free H1.out.row 2
      go_wp2_with fail
      go_ret
      have hm : Mod [rb] w1 ((w1.setCell ⟨rb, 2, none⟩ (.bool true)).drew) := ((Mod.refl [rb] w1).setCell (Or.inl (by simp)) _).drew
      exact ⟨rfl, H1.out.store hm (blk_set (w := w1) H1.out.row 2 _) HLe.out, HM1.out.trans hm⟩
    · rw [if_neg (by simp; omega)] at HR HS
      rw [HR.out, HS.out]
      have hsl := fun (n : Nat) (hn : n = p.length) (hc : p.length ≤ c) => slice8 (P := Tryz.prog) 22 5 Tryz.underlying22 Tryz.sizeOf5 a n c at_ (at_ + m) (by omega) (by omega) (by omega)
      have HSl := Lib.hid hsl
      have HMl : Hid (at_ + m ≤ p.length) := Lib.hid (by omega)
      have hgt : decide ((p.length : Int) - (at_ : Int) < (m : Int)) = false := by simp; omega
      have hgt' : ¬ ((p.length : Int) - (at_ : Int) < (m : Int)) := by omega
      clear hle hsm hs HR HS hsl
      go_enter Tryz.func20, Tryz.ntmps20
      go_wp2_with (go_at_call 19; (refine HN.out.mono ?_); rintro e w1 ⟨rfl, h1, hm1⟩; have H1 := Lib.hid h1; have HM1 := Lib.hid hm1; have hn := h1.n; have k0 := blk_cell h1.row 0; have k1 := blk_cell h1.row 1; have k2 := blk_cell h1.row 2; clear h1 hm1)
      subst hn
      have k0 : w1.cell? ⟨rb, 0, none⟩ = some (.slice a p.length c) := k0
      have k1 : w1.cell? ⟨rb, 1, none⟩ = some (.int .i64 at_) := k1
      have k2 : w1.cell? ⟨rb, 2, none⟩ = some (.bool false) := k2
      have hwr : IntKind.i64.wrap ((p.length : Int) - (at_ : Int)) = (p.length : Int) - (at_ : Int) := by rw [IntKind.wrap_i64]; have := HSm.out; have := HLe.out; omega
      go_region_held3 (fun W => W.cell? ⟨rb, 0, none⟩ = some (.slice a p.length c) ∧ W.cell? ⟨rb, 1, none⟩ = some (.int .i64 at_) ∧ W.cell? ⟨rb, 2, none⟩ = some (.bool false)) (exact ⟨k0, k1, k2⟩) (fail)
      have y1 := blk_free H1.out.row 1
      have hwr1 : IntKind.i64.wrap ((at_ : Int) + (m : Int)) = (at_ : Int) + (m : Int) := by rw [IntKind.wrap_i64]; have := HSm.out; have := HMl.out; omega
      go_wp2_with fail
      have hm : Mod [rb] w1 ((w1.setCell ⟨rb, 1, none⟩ (.int .i64 ((at_ : Int) + (m : Int)))).drew) := ((Mod.refl [rb] w1).setCell (Or.inl (by simp)) _).drew
      have hrow2 : ((w1.setCell ⟨rb, 1, none⟩ (.int .i64 ((at_ : Int) + (m : Int)))).drew).heap[rb]? = some (.cells (rrC a p.length c ⟨at_ + m, false⟩) 58 (0, 0)) := (blk_set (w := w1) H1.out.row 1 _).trans (by simp)
      generalize (w1.setCell ⟨rb, 1, none⟩ (.int .i64 ((at_ : Int) + (m : Int)))).drew = w2 at *
      have h2 := H1.out.store hm hrow2 HMl.out
      obtain ⟨a2, c2, hsl, hc2, -, hcs⟩ := HSl.out _ rfl H1.out.c
      rw [show at_ + m - at_ = m by omega] at hsl hc2
      have hcs2 := hcs w2.drew p rfl (h2.pay.1.mod ((Mod.refl [] w2).drew) (by simp))
      rw [show at_ + m - at_ = m by omega] at hcs2
      have HM2 := Lib.hid (HM1.out.trans hm)
      have k0 : w2.cell? ⟨rb, 0, none⟩ = some (.slice a p.length c) := blk_cell hrow2 0
      have k1 : w2.cell? ⟨rb, 1, none⟩ = some (.int .i64 ((at_ : Int) + (m : Int))) := (blk_cell hrow2 1).trans (by simp)
      have hsl : ∀ W, (Instr.slice 22 (.slice a p.length c) (some (.int .i64 at_)) (some (.int .i64 ((at_ : Int) + (m : Int)))) none).run Tryz.prog W = .ok (.slice a2 m c2) W := by
        intro W; have := hsl W; simpa using this
      have hwr2 : IntKind.i64.wrap ((at_ : Int) + (m : Int) - (m : Int)) = (at_ : Int) := by rw [IntKind.wrap_i64]; have := HSm.out; have := HLe.out; omega
      have hwr3 : IntKind.i64.wrap (at_ : Int) = (at_ : Int) := by rw [IntKind.wrap_i64]; have := HSm.out; have := HLe.out; omega
      have hcv := run_str (P := Tryz.prog) hcs2 22 9 5 m c2 Tryz.underlying22 Tryz.underlying5 Tryz.underlying9 (by have := HMl.out; simp; omega)
      have H2 := Lib.hid h2
      clear hm hrow2 h2 hcs hcs2 k2
      obtain ⟨q, hq⟩ : ∃ q, (p.drop at_).take m = q := ⟨_, rfl⟩
      rw [hq] at hcv
      have HQ := Lib.hid hq
      clear hq
      go_region_held3 (fun W => W.cell? ⟨rb, 0, none⟩ = some (.slice a p.length c) ∧ W.cell? ⟨rb, 1, none⟩ = some (.int .i64 ((at_ : Int) + (m : Int))) ∧ (convert 22 9 (.slice a2 m c2)).run Tryz.prog W = .ok (.string (strOfNums q)) W) (exact ⟨k0, k1, hcv⟩) (fail)
      go_wp2_with fail
      go_ret
      exact ⟨by rw [HQ.out]; rfl, H2.out.mod ((Mod.refl [] w2).drew) (by simp), HM2.out.drew⟩
  · rw [if_pos (.inl rfl)] at HR HS
    rw [HR.out, HS.out]
    clear hle hsm HR HS
    go_enter Tryz.func20, Tryz.ntmps20
    go_wp2_with (go_at_call 19; (refine HN.out.mono ?_); rintro e w1 ⟨rfl, h1, hm1⟩; have H1 := Lib.hid h1; have HM1 := Lib.hid hm1; have k2 := blk_cell h1.row 2; clear h1 hm1)
    have k2 : w1.cell? ⟨rb, 2, none⟩ = some (.bool true) := k2
    have y2 := blk_free H1.out.row 2
    go_quiet (fail)
    go_wp2_with fail
    go_ret
    have hm : Mod [rb] w1 ((w1.drewN nq).setCell ⟨rb, 2, none⟩ (.bool true)) := ((mod_drewN w1 nq).mono (by simp)).setCell (Or.inl (by simp)) _
    exact ⟨rfl, H1.out.store hm (blk_set (w := w1.drewN nq) H1.out.row 2 _) HLe.out, HM1.out.trans hm⟩
end Go.Proofs.YtbhdlclaooohfaaGreatDoor

/- Envel: the document's env. -/
namespace Go.Proofs.YtbhdlclaooohfaaGreatDoor
open Go.Maps Go.Shelf Go.Proofs.YtbhdlclaooohfaaGreatDoor.Ad Go.ChangeShapes Go.WideShapes Go.ChangeAt Go.RowKit
set_option linter.unusedVariables false
set_option linter.unusedSimpArgs false

theorem envJ_eq (j : Jb) : envJ j = (btB j.id 1 1099511627776 && (btB j.arr 0 4503599627370496 && (btB j.to.length 1 20 && (fromB j.fl j.fd && (j.to.all tgB && decide (usersL j.to).Nodup))))) := by
  unfold envJ tgsB
  cases btB j.id 1 1099511627776 <;> cases btB j.arr 0 4503599627370496 <;> cases fromB j.fl j.fd <;> cases btB j.to.length 1 20 <;> rfl
theorem nodup_step {xs : List Tg} {i : Nat} (hi : i < xs.length) (h : (usersL (xs.take i)).Nodup) (hk : ∀ k, (hk : k < i) → (xs[k]'(by omega)).user ≠ xs[i].user) : (usersL (xs.take (i + 1))).Nodup := by
  rw [usersL_succ hi, List.nodup_append]
  refine ⟨h, by simp, ?_⟩
  intro a ha b hb
  simp at hb
  subst hb
  unfold usersL at ha
  rw [List.mem_map] at ha
  obtain ⟨t, ht, rfl⟩ := ha
  obtain ⟨k, hk1, hk2⟩ := List.getElem_of_mem ht
  rw [List.getElem_take] at hk2
  rw [List.length_take] at hk1
  rw [← hk2]
  exact hk k (by omega)
theorem nodup_no {xs : List Tg} {i k : Nat} (hi : i < xs.length) (hk : k < i) (h : (xs[k]'(by omega)).user = xs[i].user) : decide (usersL xs).Nodup = false := by
  rw [decide_eq_false_iff_not]
  intro hn
  unfold usersL at hn
  have h1 := (List.pairwise_iff_getElem.1 hn) k i (by simp; omega) (by simpa using hi) hk
  simp at h1
  exact h1 h
set_option maxHeartbeats 4000000 in
theorem renv_any (w : World) (j : Jb) (p : JA) (h : CellsT w p.ta j.to) (hfl : j.fl.size ≤ 100000) (hfd : j.fd.size ≤ 100000) (hs : SmallT j.to) :
    Calls Tryz.prog 21 #[.agg (jbC j p)] w (StP (envJ j) w) := by
  unfold StP
  obtain ⟨pta, ptc, psa, psc, pba, pbc⟩ := p
  have h : CellsT w pta j.to := h
  have H0 := Lib.hid h
  have hrow := heap_alloc_new w (.cells (jbC j ⟨pta, ptc, psa, psc, pba, pbc⟩) 29)
  have hm0 : Mod [] w (w.alloc (.cells (jbC j ⟨pta, ptc, psa, psc, pba, pbc⟩) 29)) := (Mod.refl [] w).alloc _
  have H := Lib.hid (h.quiet tgC_size hm0)
  have HSm := Lib.hid hs
  obtain ⟨k0, k1, k2, k3, k4, k5, k6⟩ := JobRow.cells hrow
  have HRow := Lib.hid hrow
  have HM := Lib.hid hm0
  have HR := Lib.hid (envJ_eq j)
  have HG := Lib.hid (fun W => rgood_any j.fl j.fd W hfl hfd)
  unfold BoolP at HG
  have HF : Hid (fromB j.fl j.fd = ((j.fl.toList.isEmpty && j.fd.toList.isEmpty) || goodB (nums j.fl) (nums j.fd))) := Lib.hid rfl
  clear hm0 h hrow hfl hfd hs H
  cases h0 : btB j.id 1 1099511627776
  · rw [h0] at HR
    have HB := Lib.hid (rin_is h0)
    clear h0
    go_enter Tryz.func21, Tryz.ntmps21
    go_wp2_with (go_at_call 44; (refine (HB.out _).mono ?_); rintro e w' ⟨rfl, rfl⟩)
    go_ret
    exact ⟨by rw [HR.out]; rfl, HM.out⟩
  cases h1 : btB j.arr 0 4503599627370496
  · rw [h0, h1] at HR
    have HB := Lib.hid (rin_is h0)
    have HB1 := Lib.hid (rin_is h1)
    clear h0 h1
    go_enter Tryz.func21, Tryz.ntmps21
    go_wp2_with (go_at_call 44; first | ((with_reducible refine (HB.out _).mono ?_); rintro e w' ⟨rfl, rfl⟩) | ((with_reducible refine (HB1.out _).mono ?_); rintro e w' ⟨rfl, rfl⟩))
    go_ret
    exact ⟨by rw [HR.out]; rfl, HM.out⟩
  cases h2 : btB j.to.length 1 20
  · rw [h0, h1, h2] at HR
    have HB := Lib.hid (rin_is h0)
    have HB1 := Lib.hid (rin_is h1)
    have HB2 := Lib.hid (rin_is h2)
    clear h0 h1 h2
    go_enter Tryz.func21, Tryz.ntmps21
    go_wp2_with (go_at_call 44; first | ((with_reducible refine (HB.out _).mono ?_); rintro e w' ⟨rfl, rfl⟩) | ((with_reducible refine (HB1.out _).mono ?_); rintro e w' ⟨rfl, rfl⟩) | ((with_reducible refine (HB2.out _).mono ?_); rintro e w' ⟨rfl, rfl⟩))
    go_ret
    exact ⟨by rw [HR.out]; rfl, HM.out⟩
  have HB := Lib.hid (rin_is h0)
  have HB1 := Lib.hid (rin_is h1)
  have HB2 := Lib.hid (rin_is h2)
  have h20 := btB_iff.1 h2
  have HN20 := Lib.hid h20
  have hlen : j.to.length ≤ 20 := by omega
  rw [h0, h1, h2] at HR
  clear h0 h1 h2 h20
  cases hf : fromB j.fl j.fd
  · rw [hf] at HR HF
    have hnn := HF.out.symm
    simp only [Bool.or_eq_false_iff, Bool.and_eq_false_iff] at hnn
    obtain ⟨hn1, hn2⟩ := hnn
    rw [hn2] at HG
    clear hf hn2
    by_cases e0 : j.fl.toList = []
    · have e0' : j.fl.toList.isEmpty = true := by rw [e0]; rfl
      have e1' : j.fd.toList.isEmpty = false := by rcases hn1 with h | h; rw [e0'] at h; cases h; exact h
      have e1 : ¬ j.fd.toList = [] := by simpa using e1'
      clear hn1
      go_enter Tryz.func21, Tryz.ntmps21
      go_wp2_with (first | (go_at_call 44; first | ((with_reducible refine (HB.out _).mono ?_); rintro e w' ⟨rfl, rfl⟩) | ((with_reducible refine (HB1.out _).mono ?_); rintro e w' ⟨rfl, rfl⟩) | ((with_reducible refine (HB2.out _).mono ?_); rintro e w' ⟨rfl, rfl⟩)) | (go_at_call 45; (refine (HG.out _).mono ?_); rintro e w' ⟨rfl, hm⟩; have HM1 := Lib.hid (HM.out.trans (Mod.ofBelow hm)); clear hm))
      go_ret
      exact ⟨by rw [HR.out]; rfl, HM1.out⟩
    · have e0' : j.fl.toList.isEmpty = false := by simpa using e0
      clear hn1
      go_enter Tryz.func21, Tryz.ntmps21
      go_wp2_with (first | (go_at_call 44; first | ((with_reducible refine (HB.out _).mono ?_); rintro e w' ⟨rfl, rfl⟩) | ((with_reducible refine (HB1.out _).mono ?_); rintro e w' ⟨rfl, rfl⟩) | ((with_reducible refine (HB2.out _).mono ?_); rintro e w' ⟨rfl, rfl⟩)) | (go_at_call 45; (refine (HG.out _).mono ?_); rintro e w' ⟨rfl, hm⟩; have HM1 := Lib.hid (HM.out.trans (Mod.ofBelow hm)); clear hm))
      go_ret
      exact ⟨by rw [HR.out]; rfl, HM1.out⟩
  rw [hf] at HR HF
  have hfn := HF.out.symm
  clear hf
  obtain ⟨n, hn⟩ : ∃ n, j.to.length = n := ⟨_, rfl⟩
  have HN := Lib.hid hn
  rw [hn] at HB2
  obtain ⟨gj, hgj⟩ : ∃ gj, w.heap.size = gj := ⟨_, rfl⟩
  rw [hgj] at HRow k0 k1 k2 k3 k4 k5 k6
  have hsplit : (j.fl.toList = [] ∧ j.fd.toList = []) ∨ ((¬ j.fl.toList = [] ∨ ¬ j.fd.toList = []) ∧ goodB (nums j.fl) (nums j.fd) = true) := by
    by_cases e0 : j.fl.toList = [] <;> by_cases e1 : j.fd.toList = []
    · exact .inl ⟨e0, e1⟩
    · right
      refine ⟨.inr e1, ?_⟩
      have e1' : j.fd.toList.isEmpty = false := by simpa using e1
      rw [e1', Bool.and_false, Bool.false_or] at hfn
      exact hfn
    · right
      refine ⟨.inl e0, ?_⟩
      have e0' : j.fl.toList.isEmpty = false := by simpa using e0
      rw [e0', Bool.false_and, Bool.false_or] at hfn
      exact hfn
    · right
      refine ⟨.inl e0, ?_⟩
      have e0' : j.fl.toList.isEmpty = false := by simpa using e0
      rw [e0', Bool.false_and, Bool.false_or] at hfn
      exact hfn
  clear hfn
  go_enter Tryz.func21, Tryz.ntmps21
  have hs3 : (j.fl.toList = [] ∧ j.fd.toList = []) ∨ ((j.fl.toList = [] ∧ ¬ j.fd.toList = []) ∧ goodB (nums j.fl) (nums j.fd) = true) ∨ (¬ j.fl.toList = [] ∧ goodB (nums j.fl) (nums j.fd) = true) := by
    rcases hsplit with h | ⟨h, hg⟩
    · exact .inl h
    · by_cases e0 : j.fl.toList = []
      · exact .inr (.inl ⟨⟨e0, by rcases h with h | h; exact absurd e0 h; exact h⟩, hg⟩)
      · exact .inr (.inr ⟨e0, hg⟩)
  clear hsplit
  have HW := HM
  rcases hs3 with ⟨e0, e1⟩ | ⟨⟨e0, e1⟩, hgd⟩ | ⟨e0, hgd⟩
  all_goals
    try rw [hgd] at HG
    try clear hgd
    try have e0' : j.fl.toList.isEmpty = true := by rw [e0]; rfl
    try have e0' : j.fl.toList.isEmpty = false := by simpa using e0
    try have e1' : j.fd.toList.isEmpty = true := by rw [e1]; rfl
    try have e1' : j.fd.toList.isEmpty = false := by simpa using e1
    go_wp2_with (first | (go_at_call 44; first | ((with_reducible refine (HB.out _).mono ?_); rintro e w' ⟨rfl, rfl⟩) | ((with_reducible refine (HB1.out _).mono ?_); rintro e w' ⟨rfl, rfl⟩) | ((with_reducible refine (HB2.out _).mono ?_); rintro e w' ⟨rfl, rfl⟩)) | (go_at_call 45; (refine (HG.out _).mono ?_); rintro e W ⟨rfl, hm⟩; have HW := Lib.hid (HM.out.trans (Mod.ofBelow hm)); have hrow1 := (Mod.ofBelow hm).row HRow.out (by simp); have HRow := Lib.hid hrow1; obtain ⟨k0, k1, k2, k3, k4, k5, k6⟩ := JobRow.cells hrow1; clear hm hrow1))
    go_loopw [3] (fun v wr => ∃ i : Nat, v = .int .i64 i ∧ i ≤ n ∧ (j.to.take i).all tgB = true ∧ (usersL (j.to.take i)).Nodup ∧ wr.heap[gj]? = some (.cells (jbC j ⟨pta, ptc, psa, psc, pba, pbc⟩) 29 (0, 0)) ∧ Mod [] w wr) (fun v _ => n - (intOf v).toNat)
    case atStart => exact ⟨0, rfl, Nat.zero_le _, by simp, by simp [usersL], HRow.out, HW.out⟩
    case round =>
      obtain ⟨i, rfl, hi, hall, hnd, hrow, hm⟩ := hrel
      have HAll := Lib.hid hall
      have HNd := Lib.hid hnd
      have HRw := Lib.hid hrow
      have HMr := Lib.hid hm
      clear k0 k1 k2 k3 k4 k5 k6 hall hnd hm
      obtain ⟨k0, k1, k2, k3, k4, k5, k6⟩ := JobRow.cells hrow
      clear hrow
      by_cases hlt : i < n
      · have hif : i < j.to.length := by rw [HN.out]; exact hlt
        obtain ⟨b, o, rfl, -⟩ := H0.out.addr tgC_size (by decide) (by omega)
        obtain ⟨c0, c1, c2⟩ := CellsT.row (H0.out.quiet tgC_size HMr.out) i hif
        have hix := ixa (P := Tryz.prog) 26 39 Tryz.underlying26 3 sizeTg _ b o n ptc i rfl hlt
        obtain ⟨x, hx⟩ : ∃ x, j.to[i] = x := ⟨_, rfl⟩
        have hxs := HSm.out x (by rw [← hx]; exact List.getElem_mem hif)
        rw [hx] at c0 c1 c2
        have HStep := Lib.hid (fun hb : tgB x = true => all_step HAll.out hif (by rw [hx]; exact hb))
        have HNo := Lib.hid (fun hb : tgB x = false => all_no (p := tgB) hif (by rw [hx]; exact hb))
        have HNs := Lib.hid (fun hk => nodup_step hif HNd.out hk)
        have HNn := Lib.hid (fun (k : Nat) (hk : k < i) h => nodup_no hif hk h)
        have HX := Lib.hid hx
        clear hx
        have HT := Lib.hid (show tgB x = (btB x.user 1 999 && goodB (nums x.l) (nums x.d)) from rfl)
        have HC := Lib.hid (rin_any x.user 1 999)
        have HGx := Lib.hid (fun W => rgood_any x.l x.d W hxs.1 hxs.2)
        unfold BoolP at HGx
        cases hq1 : btB x.user 1 999
        · rw [hq1] at HC HT
          have HNo2 := Lib.hid (HNo.out (by rw [HT.out]; rfl))
          clear hq1
          go_wp2_with (go_at_call 44; (refine (HC.out _).mono ?_); rintro e w' ⟨rfl, rfl⟩)
          go_ret
          exact ⟨by rw [HR.out, HNo2.out]; rfl, HMr.out⟩
        · rw [hq1] at HC HT
          clear hq1
          cases hq2 : goodB (nums x.l) (nums x.d)
          · rw [hq2] at HGx HT
            have HNo2 := Lib.hid (HNo.out (by rw [HT.out]; rfl))
            clear hq2
            go_wp2_with (first | (go_at_call 44; (refine (HC.out _).mono ?_); rintro e w' ⟨rfl, rfl⟩) | (go_at_call 45; (refine (HGx.out _).mono ?_); rintro e w' ⟨rfl, hm⟩; have HM1 := Lib.hid (HMr.out.trans (Mod.ofBelow hm)); clear hm))
            go_ret
            exact ⟨by rw [HR.out, HNo2.out]; rfl, HM1.out⟩
          · rw [hq2] at HGx HT
            have HAll2 := Lib.hid (HStep.out (by rw [HT.out]; rfl))
            clear hq2
            go_wp2_with (first | (go_at_call 44; (refine (HC.out _).mono ?_); rintro e w' ⟨rfl, rfl⟩) | (go_at_call 45; (refine (HGx.out _).mono ?_); rintro e w1 ⟨rfl, hm⟩; have HM1 := Lib.hid (HMr.out.trans (Mod.ofBelow hm)); have HRw1 := Lib.hid ((Mod.ofBelow hm).row HRw.out (by simp)); clear hm c0 c1 c2 k0 k1 k2 k3 k4 k5 k6))
            go_loopw [4] (fun v wk => ∃ k : Nat, v = .int .i64 k ∧ k ≤ i ∧ (∀ k' (h : k' < k) (h2 : k' < j.to.length), j.to[k'].user ≠ x.user) ∧ wk.heap[gj]? = some (.cells (jbC j ⟨some ⟨b, o, none⟩, ptc, psa, psc, pba, pbc⟩) 29 (0, 0)) ∧ Mod [] w wk) (fun v _ => i - (intOf v).toNat)
            case atStart => exact ⟨0, rfl, Nat.zero_le _, fun k' h => absurd h (Nat.not_lt_zero _), HRw1.out, HM1.out⟩
            case round =>
              obtain ⟨k, rfl, hk, hne, hrow, hm⟩ := hrel
              have HNe := Lib.hid hne
              have HRk := Lib.hid hrow
              have HMk := Lib.hid hm
              clear hne hm
              obtain ⟨k0, k1, k2, k3, k4, k5, k6⟩ := JobRow.cells hrow
              clear hrow
              try rw [HN.out] at k4
              by_cases hkl : k < i
              · have hkf : k < j.to.length := by omega
                obtain ⟨c0, -, -⟩ := CellsT.row (H0.out.quiet tgC_size HMk.out) i hif
                obtain ⟨d0, -, -⟩ := CellsT.row (H0.out.quiet tgC_size HMk.out) k hkf
                have hiy := ixa (P := Tryz.prog) 26 39 Tryz.underlying26 3 sizeTg _ b o n ptc k rfl (by omega)
                rw [HX.out] at c0
                obtain ⟨y, hy⟩ : ∃ y, j.to[k] = y := ⟨_, rfl⟩
                rw [hy] at d0
                have HY := Lib.hid hy
                clear hy
                by_cases he : y.user = x.user
                · have HNo2 := Lib.hid (HNn.out k hkl (by rw [HX.out, HY.out]; exact he))
                  have he1 : (y.user == x.user) = true := by simpa using he
                  go_wp2_with fail
                  go_region_held3 (fun W => W.cell? ⟨gj, 4, none⟩ = some (.slice (some ⟨b, o, none⟩) n ptc) ∧ W.cell? ⟨b, o + i * 3, none⟩ = some (.int .i64 x.user) ∧ W.cell? ⟨b, o + k * 3, none⟩ = some (.int .i64 y.user)) (exact ⟨k4, c0, d0⟩) (fail)
                  go_wp2_with fail
                  go_ret
                  exact ⟨by rw [HR.out, HNo2.out]; simp, by first | exact HMk.out | exact HMk.out.drew⟩
                · have he1 : (y.user == x.user) = false := by simpa using he
                  go_wp2_with fail
                  go_region_held3 (fun W => W.cell? ⟨gj, 4, none⟩ = some (.slice (some ⟨b, o, none⟩) n ptc) ∧ W.cell? ⟨b, o + i * 3, none⟩ = some (.int .i64 x.user) ∧ W.cell? ⟨b, o + k * 3, none⟩ = some (.int .i64 y.user)) (exact ⟨k4, c0, d0⟩) (fail)
                  go_wp2_with fail
                  go_roundw
                  case rel =>
                    refine ⟨k + 1, by go_num, by omega, fun k' h h2 => ?_, HRk.out, by first | exact HMk.out | exact HMk.out.drew⟩
                    by_cases e : k' = k
                    · subst e; rw [HY.out]; exact he
                    · exact HNe.out k' (by omega) h2
                  case measure => simp [intOf]; omega
              · have hki : k = i := by omega
                have HNd2 := Lib.hid (HNs.out (fun k' hk' => by rw [HX.out]; exact HNe.out k' (by omega) (by omega)))
                go_wp2_with fail
                go_roundw
                case rel => exact ⟨i + 1, by go_num, by omega, HAll2.out, HNd2.out, HRk.out, HMk.out⟩
                case measure => simp [intOf]; omega
      · have hil : i = n := by omega
        have HA := Lib.hid (show j.to.all tgB = true by
          have := HAll.out
          rwa [hil, ← HN.out, List.take_length] at this)
        have HD := Lib.hid (show decide (usersL j.to).Nodup = true by
          have := HNd.out
          rw [hil, ← HN.out, List.take_length] at this
          simpa using this)
        go_wp2_with fail
        go_ret
        exact ⟨by rw [HR.out, HA.out, HD.out]; rfl, HMr.out⟩
end Go.Proofs.YtbhdlclaooohfaaGreatDoor

