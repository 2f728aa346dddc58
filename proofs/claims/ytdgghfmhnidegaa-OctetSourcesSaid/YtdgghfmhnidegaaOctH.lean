/- Contracts of a source, on: U, I, Raw, Text. -/
import Derived.Test.YtdgghfmhnidegaaOctG
namespace Go.Proofs.Ytdgghfmhnidegaa
open Go.ChangeShapes Go.WideShapes Go.ChangeAt Go.RowKit
set_option linter.unusedVariables false
set_option linter.unusedSimpArgs false

def srcUE (l : List Int) (e k : Int) : Int := if e ≠ 0 then e else if sizedB k = false then 1 else if (l.length : Int) < k then 2 else 0
def srcUL (l : List Int) (e k : Int) : List Int := if srcUE l e k = 0 then l.drop k.toNat else l
def srcUV (l : List Int) (e k : Int) : Int := if srcUE l e k = 0 then val (l.take k.toNat) else 0

theorem get_nil (k : Int) : getR [] 0 k = 0 := by
  unfold getR getB getV
  split <;> simp [val]

theorem failE_ne (e x : Int) (h : x ≠ 0) : failE e x ≠ 0 := by unfold failE; split <;> assumption

/-- behind a call that takes -/
structure Takes (w : World) (s g : Nat) (l' : List Int) (e' : Int) (w' : World) : Prop where
  src : Srce w' s g l' e'
  mod : Mod [s] w w'

theorem srcU_any (w : World) (s g : Nat) (l : List Int) (er k : Int) (h : Srce w s g l er) (hl : l.length ≤ 9223372036854775807) :
    Calls Try.prog 30 #[.pointer (some ⟨s, 0, none⟩), .int .i64 k] w fun e w' => e = .returned (.int .u64 (srcUV l er k)) ∧ Takes w s g (srcUL l er k) (srcUE l er k) w' := by
  have H := Lib.hid h
  clear h
  by_cases hs : sizedB k = true
  case neg =>
    have hs : sizedB k = false := by simpa using hs
    have hf := fail_any w s g l er 1 H.out
    have hfe : failE er 1 = srcUE l er k := by unfold failE srcUE; by_cases h : er = 0 <;> simp [h, hs]
    have hne : srcUE l er k ≠ 0 := by rw [← hfe]; exact failE_ne _ _ (by decide)
    rw [hfe] at hf
    have t0 : takeE l (srcUE l er k) k = srcUE l er k := by simp [takeE, hne]
    have t1 : takeR l (srcUE l er k) k = [] := by simp [takeR, t0, hne]
    have t2 : takeL l (srcUE l er k) k = l := by simp [takeL, t0, hne]
    have u1 : srcUL l er k = l := by simp [srcUL, hne]
    have u2 : srcUV l er k = 0 := by simp [srcUV, hne]
    have Hn := Lib.hid hne
    have T0 := Lib.hid t0; have T1 := Lib.hid t1; have T2 := Lib.hid t2
    have HF := Lib.hid hf
    have U1 := Lib.hid u1; have U2 := Lib.hid u2
    clear hf hfe hne t0 t1 t2 u1 u2
    generalize srcUE l er k = e1 at *
    go_enter Try.func30, Try.ntmps30
    go_wp2_with (first
      | (go_at_call 39; refine (sized_any _ _).mono ?_; rintro e w' ⟨rfl, rfl⟩)
      | (go_at_call 42; refine HF.out.mono ?_; rintro e w1 ⟨rfl, k1, k2⟩; have K1 := Lib.hid k1; have K2 := Lib.hid k2; clear k1 k2)
      | (go_at_call 43; refine (take_any _ _ _ _ _ _ K1.out (fun h => absurd h Hn.out)).mono ?_; rintro e w2 ⟨a, cap, rfl, c8, _, _, k3, k4⟩; rw [T1.out] at c8; rw [T2.out, T0.out] at k3; rw [T1.out]; have C8 := Lib.hid c8; have K3 := Lib.hid k3; have K4 := Lib.hid k4; clear c8 k3 k4)
      | (go_at_call 11; refine (get_any _ [] _ _ _ _ C8.out (by simp) _ rfl).mono ?_; rw [get_nil]; rintro e w3 ⟨rfl, rfl⟩))
    go_ret
    exact ⟨ret_int U2.out.symm, by rw [U1.out]; exact K3.out, K2.out.trans K4.out⟩
  obtain ⟨ha, hb⟩ := sized_iff.1 hs
  have t0 : takeE l er k = srcUE l er k := by simp [takeE, srcUE, hs]
  have t2 : takeL l er k = srcUL l er k := by simp [takeL, srcUL, t0]
  have t1 : getR (takeR l er k) 0 k = srcUV l er k := by
    unfold takeR srcUV
    rw [t0]
    by_cases h : srcUE l er k = 0
    · rw [if_pos h, if_pos h]
      have hlk : k ≤ l.length := by
        unfold srcUE at h
        by_cases h2 : er = 0 <;> simp [h2, hs] at h
        exact h
      simp only [getR, getB, getV, hs, Bool.true_and]
      rw [if_pos (by simp; omega)]
      simp [List.take_take]
    · rw [if_neg h, if_neg h, get_nil]
  have ht := take_any w s g l er k H.out (fun _ => by omega)
  unfold Took at ht
  rw [t2, t0] at ht
  have hb : (takeR l er k).length ≤ 9223372036854775807 := by unfold takeR; split <;> simp <;> omega
  generalize takeR l er k = r at *
  have HT := Lib.hid ht
  have T1 := Lib.hid t1
  clear ht t0 t1 t2
  go_enter Try.func30, Try.ntmps30
  go_wp2_with (first
    | (go_at_call 39; refine (sized_any _ _).mono ?_; rintro e w' ⟨rfl, rfl⟩)
    | (go_at_call 43; refine HT.out.mono ?_; rintro e w2 ⟨a, cap, rfl, c8, _, _, k3, k4⟩; have C8 := Lib.hid c8; have K3 := Lib.hid k3; have K4 := Lib.hid k4; clear c8 k3 k4)
    | (go_at_call 11; refine (get_any _ r _ _ _ _ C8.out (by omega) _ rfl).mono ?_; rw [T1.out]; rintro e w3 ⟨rfl, rfl⟩))
  go_ret
  exact ⟨rfl, K3.out, K4.out⟩

theorem srcUV_bound (l : List Int) (e k : Int) (hb : Bytes l) : 0 ≤ srcUV l e k ∧ srcUV l e k < 18446744073709551616 := by
  unfold srcUV
  split
  · rename_i h
    have h1 := val_bound _ (hb.take k.toNat)
    have hk : k ≤ 8 := by
      unfold srcUE at h
      by_cases h2 : e = 0
      · by_cases h3 : sizedB k = true
        · exact (sized_iff.1 h3).2
        · have h3 : sizedB k = false := by simpa using h3
          simp [h2, h3] at h
      · simp [h2] at h
    have h2 := pow_le8 (n := (l.take k.toNat).length) (by simp; omega)
    omega
  · omega

theorem Srce.bytes {w : World} {s g : Nat} {l : List Int} {e : Int} (h : Srce w s g l e) : Bytes l := by
  obtain ⟨a, cap, _, h8, _⟩ := h.ex
  exact h8.1

theorem srcI_any (w : World) (s g : Nat) (l : List Int) (er k : Int) (h : Srce w s g l er) (hl : l.length ≤ 9223372036854775807) :
    Calls Try.prog 31 #[.pointer (some ⟨s, 0, none⟩), .int .i64 k] w fun e w' => e = .returned (.int .i64 (signedR (srcUV l er k) k)) ∧ Takes w s g (srcUL l er k) (srcUE l er k) w' := by
  have hu := srcU_any w s g l er k h hl
  obtain ⟨hv0, hv1⟩ := srcUV_bound l er k h.bytes
  have HU := Lib.hid hu
  clear h hu
  generalize srcUV l er k = x at *
  go_enter Try.func31, Try.ntmps31
  go_wp2_with (first
    | (go_at_call 30; refine HU.out.mono ?_; rintro e w1 ⟨rfl, k1⟩; have K1 := Lib.hid k1; clear k1)
    | (go_at_call 13; refine (signed_any _ _ _ hv0 hv1).mono ?_; rintro e w2 ⟨rfl, rfl⟩))
  go_ret
  exact ⟨rfl, K1.out⟩

def srcRE (l : List Int) (e n : Int) : Int := if e ≠ 0 then e else if n < 0 then 1 else if (l.length : Int) < n then 2 else 0
def srcRL (l : List Int) (e n : Int) : List Int := if srcRE l e n = 0 then l.drop n.toNat else l
def srcRV (l : List Int) (e n : Int) : List Int := if srcRE l e n = 0 then l.take n.toNat else []

/-- new bytes, and the source behind it -/
def TakesNew (w : World) (s g : Nat) (r l' : List Int) (e' : Int) (e : Ending) (w' : World) : Prop :=
  ∃ a cap, e = .returned (.slice a r.length cap) ∧ w'.ownsRow w.heap.size 5 1 (.slice a r.length cap) r.length (u8s r) ∧ Takes w s g l' e' w'

theorem takesNew_of {w w1 w2 : World} {s g : Nat} {r l' : List Int} {e' : Int} {a : Option Addr} {cap : Nat} (h1 : Takes w s g l' e' w1) (h2 : w2.ownsRow w1.heap.size 5 1 (.slice a r.length cap) r.length (u8s r)) (h3 : Below w1.heap.size w1 w2) :
    TakesNew w s g r l' e' (.returned (.slice a r.length cap)) w2 := by
  have hm := Mod.ofBelow h3
  have hsz := h1.mod.size
  exact ⟨a, cap, rfl, owns_rebase h2 (fun k hk => by have := h2.lt k hk; omega), h1.src.mod hm (by simp) (by simp), h1.mod.trans' hm (by simp)⟩

theorem srcRaw_any (w : World) (s g : Nat) (l : List Int) (er n : Int) (h : Srce w s g l er) (hl : l.length ≤ 140737488355328) :
    Calls Try.prog 33 #[.pointer (some ⟨s, 0, none⟩), .int .i64 n] w (TakesNew w s g (srcRV l er n) (srcRL l er n) (srcRE l er n)) := by
  have H := Lib.hid h
  clear h
  by_cases hn : n < 0
  · have hf := fail_any w s g l er 1 H.out
    have hfe : failE er 1 = srcRE l er n := by unfold failE srcRE; by_cases h : er = 0 <;> simp [h, hn]
    have hne : srcRE l er n ≠ 0 := by rw [← hfe]; exact failE_ne _ _ (by decide)
    rw [hfe] at hf
    have t0 : takeE l (srcRE l er n) n = srcRE l er n := by simp [takeE, hne]
    have t1 : takeR l (srcRE l er n) n = [] := by simp [takeR, t0, hne]
    have t2 : takeL l (srcRE l er n) n = l := by simp [takeL, t0, hne]
    have u1 : srcRL l er n = l := by simp [srcRL, hne]
    have u2 : srcRV l er n = [] := by simp [srcRV, hne]
    rw [u1, u2]
    have Hn := Lib.hid hne
    have T0 := Lib.hid t0; have T1 := Lib.hid t1; have T2 := Lib.hid t2
    have HF := Lib.hid hf
    clear hf hfe hne t0 t1 t2 u1 u2
    generalize srcRE l er n = e1 at *
    go_enter Try.func33, Try.ntmps33
    go_wp2_with (first
      | (go_at_call 42; refine HF.out.mono ?_; rintro e w1 ⟨rfl, k1, k2⟩; have K1 := Lib.hid k1; have K2 := Lib.hid k2; clear k1 k2)
      | (go_at_call 43; refine (take_any _ _ _ _ _ _ K1.out (fun h => absurd h Hn.out)).mono ?_; rintro e w2 ⟨a, cap, rfl, c8, _, _, k3, k4⟩; rw [T1.out] at c8; rw [T2.out, T0.out] at k3; rw [T1.out]; have C8 := Lib.hid c8; have K3 := Lib.hid k3; have K4 := Lib.hid k4; clear c8 k3 k4)
      | (go_at_call 41; refine (clone_any _ _ _ _ [] C8.out rfl (by simp)).mono ?_; rintro e w3 ⟨a3, cap3, rfl, j1, j2⟩; have J1 := Lib.hid j1; have J2 := Lib.hid j2; clear j1 j2))
    go_ret
    exact takesNew_of ⟨K3.out, K2.out.trans K4.out⟩ J1.out J2.out
  · have t0 : takeE l er n = srcRE l er n := by simp [takeE, srcRE, hn]
    have t2 : takeL l er n = srcRL l er n := by simp [takeL, srcRL, t0]
    have t1 : takeR l er n = srcRV l er n := by simp [takeR, srcRV, t0]
    have ht := take_any w s g l er n H.out (fun _ => by omega)
    unfold Took at ht
    rw [t2, t0, t1] at ht
    have hb : (srcRV l er n).length ≤ 140737488355328 := by unfold srcRV; split <;> simp <;> omega
    have HT := Lib.hid ht
    clear ht t0 t1 t2
    generalize srcRV l er n = r at *
    go_enter Try.func33, Try.ntmps33
    go_wp2_with (first
      | (go_at_call 43; refine HT.out.mono ?_; rintro e w2 ⟨a, cap, rfl, c8, _, _, k3, k4⟩; have C8 := Lib.hid c8; have K3 := Lib.hid k3; have K4 := Lib.hid k4; clear c8 k3 k4)
      | (go_at_call 41; refine (clone_any _ _ _ _ r C8.out rfl (by omega)).mono ?_; rintro e w3 ⟨a3, cap3, rfl, j1, j2⟩; have J1 := Lib.hid j1; have J2 := Lib.hid j2; clear j1 j2))
    go_ret
    exact takesNew_of ⟨K3.out, K4.out⟩ J1.out J2.out

def srcTN (l : List Int) : Int := val (l.take 4)
def srcTE (l : List Int) (e most : Int) : Int := if e ≠ 0 then e else if l.length < 4 then 2 else if most < srcTN l then 4 else if (l.length : Int) < 4 + srcTN l then 2 else 0
def srcTL (l : List Int) (e most : Int) : List Int := if srcTE l e most = 0 then l.drop (4 + (srcTN l).toNat) else l
def srcTV (l : List Int) (e most : Int) : List Int := if srcTE l e most = 0 then (l.drop 4).take (srcTN l).toNat else []

theorem takeE_ne {l : List Int} {e n : Int} (h : e ≠ 0) : takeE l e n = e := by simp [takeE, h]
theorem takeR_ne {l : List Int} {e n : Int} (h : e ≠ 0) : takeR l e n = [] := by simp [takeR, takeE_ne h, h]
theorem takeL_ne {l : List Int} {e n : Int} (h : e ≠ 0) : takeL l e n = l := by simp [takeL, takeE_ne h, h]
theorem srcTN_bound (l : List Int) (hb : Bytes l) : 0 ≤ srcTN l ∧ srcTN l < 4294967296 := by
  have h1 := val_bound _ (hb.take 4)
  have h2 : (256:Int) ^ (l.take 4).length ≤ 4294967296 := by
    have h3 : (l.take 4).length ≤ 4 := by simp; omega
    have : (l.take 4).length = 0 ∨ (l.take 4).length = 1 ∨ (l.take 4).length = 2 ∨ (l.take 4).length = 3 ∨ (l.take 4).length = 4 := by omega
    rcases this with h | h | h | h | h <;> rw [h] <;> decide
  unfold srcTN
  omega

theorem conv_end {w : World} {a : Option Addr} {r t : List Int} {cap : Nat} (hT : Hid (List.drop 4 r = t)) (hrc : r.length ≤ cap) (hcap : cap = 4) (c : Nat) :
    (convert 23 9 (.slice a (r.length - 4) c)).run Try.prog w = .ok (.string (strOfNums t)) w := by
  have h : t = [] := by rw [← hT.out]; exact List.drop_eq_nil_of_le (by omega)
  subst h
  exact run_str (Cells8.nil w a) _ _ 5 _ c Try.underlying23 Try.underlying5 Try.underlying9 (by simp; omega)

set_option maxHeartbeats 1000000 in
theorem srcText_any (w : World) (s g : Nat) (l : List Int) (er most : Int) (h : Srce w s g l er) (hl : l.length ≤ 140737488355328) :
    Calls Try.prog 32 #[.pointer (some ⟨s, 0, none⟩), .int .i64 most] w fun e w' => e = .returned (.string (strOfNums (srcTV l er most))) ∧ Takes w s g (srcTL l er most) (srcTE l er most) w' := by
  have hbytes := h.bytes
  obtain ⟨hN0, hN1⟩ := srcTN_bound l hbytes
  obtain ⟨a0, cap0, hc0, h8, _⟩ := h.ex
  have hcell := two_cell0 hc0
  have H := Lib.hid h
  have hget := get_any a0 l cap0 0 4 w h8 (by omega) _ rfl
  have hEr := two_cell1 hc0
  clear h h8 hc0 hbytes
  by_cases h4 : l.length < 4
  · have g1 : getB l 0 4 = false := by simp [getB]; omega
    have g2 : getR l 0 4 = 0 := by simp [getR, g1]
    rw [g1, g2] at hget
    have HG := Lib.hid hget
    have hf := fail_any w s g l er 2 H.out
    have hfe : failE er 2 = srcTE l er most := by unfold failE srcTE; by_cases h : er = 0 <;> simp [h, h4]
    have hne : srcTE l er most ≠ 0 := by rw [← hfe]; exact failE_ne _ _ (by decide)
    rw [hfe] at hf
    have hfe4 : failE (srcTE l er most) 4 = srcTE l er most := by unfold failE; rw [if_neg hne]
    have u1 : srcTL l er most = l := by simp [srcTL, hne]
    have u2 : strOfNums (srcTV l er most) = ByteArray.empty := by simp [srcTV, hne]; rfl
    have Hn := Lib.hid hne
    have HF := Lib.hid hf
    have HF4 := Lib.hid hfe4
    rw [u1, u2]
    have hB1 : (srcTE l er most != 0) = true := by simpa using hne
    clear hf hfe hne hfe4 u1 u2 hget g1 g2 hN0 hN1
    generalize srcTE l er most = e1 at *
    by_cases hm : most < 0
    · go_enter Try.func32, Try.ntmps32
      go_wp2_with (first
        | (go_at_call 11; (with_reducible refine HG.out.mono ?_); rintro e w3 ⟨rfl, rfl⟩)
        | (go_at_call 42; (with_reducible refine HF.out.mono ?_); rintro e w1 ⟨rfl, k1, k2⟩; have K1 := Lib.hid k1; have K2 := Lib.hid k2; clear k1 k2 hcell hEr)
        | (go_at_call 42; (with_reducible refine (fail_any _ _ _ _ _ _ K1.out).mono ?_); rw [HF4.out]; rintro e w2 ⟨rfl, j1, j2⟩; have J1 := Lib.hid j1; have J2 := Lib.hid (K2.out.trans j2); clear j1 j2)
        | (go_at_call 43; (with_reducible refine (take_any _ _ _ _ _ _ J1.out (fun h => absurd h Hn.out)).mono ?_); rintro e w4 ⟨a, cap, rfl, _, _, _, k3, k4⟩; rw [takeL_ne Hn.out, takeE_ne Hn.out] at k3; obtain ⟨a1, cap1, hd, _⟩ := k3.ex; have hd1 := two_cell1 hd; have K3 := Lib.hid k3; have K4 := Lib.hid (J2.out.trans k4); clear k3 k4 hd))
      go_ret
      exact ⟨rfl, K3.out, K4.out⟩
    · go_enter Try.func32, Try.ntmps32
      go_wp2_with (first
        | (go_at_call 11; (with_reducible refine HG.out.mono ?_); rintro e w3 ⟨rfl, rfl⟩)
        | (go_at_call 42; (with_reducible refine HF.out.mono ?_); rintro e w1 ⟨rfl, k1, k2⟩; have K1 := Lib.hid k1; have K2 := Lib.hid k2; clear k1 k2 hcell hEr)
        | (go_at_call 43; (with_reducible refine (take_any _ _ _ _ _ _ K1.out (fun h => absurd h Hn.out)).mono ?_); rintro e w4 ⟨a, cap, rfl, _, _, _, k3, k4⟩; rw [takeL_ne Hn.out, takeE_ne Hn.out] at k3; obtain ⟨a1, cap1, hd, _⟩ := k3.ex; have hd1 := two_cell1 hd; have K3 := Lib.hid k3; have K4 := Lib.hid (K2.out.trans k4); clear k3 k4 hd))
      go_ret
      exact ⟨rfl, K3.out, K4.out⟩
  · have g1 : getB l 0 4 = true := by simp [getB, sizedB]; omega
    have g2 : getR l 0 4 = srcTN l := by simp [getR, g1, getV, srcTN]
    rw [g1, g2] at hget
    have HG := Lib.hid hget
    clear hget g1 g2
    by_cases hm : most < srcTN l
    · have hf := fail_any w s g l er 4 H.out
      have hfe : failE er 4 = srcTE l er most := by unfold failE srcTE; by_cases h : er = 0 <;> simp [h, h4, hm]
      have hne : srcTE l er most ≠ 0 := by rw [← hfe]; exact failE_ne _ _ (by decide)
      rw [hfe] at hf
      have u1 : srcTL l er most = l := by simp [srcTL, hne]
      have u2 : strOfNums (srcTV l er most) = ByteArray.empty := by simp [srcTV, hne]; rfl
      have Hn := Lib.hid hne
      have HF := Lib.hid hf
      rw [u1, u2]
      have hB1 : (srcTE l er most != 0) = true := by simpa using hne
      clear hf hfe hne u1 u2
      generalize srcTE l er most = e1 at *
      generalize srcTN l = N at *
      go_enter Try.func32, Try.ntmps32
      go_wp2_with (first
        | (go_at_call 11; (with_reducible refine HG.out.mono ?_); rintro e w3 ⟨rfl, rfl⟩)
        | (go_at_call 42; (with_reducible refine HF.out.mono ?_); rintro e w1 ⟨rfl, k1, k2⟩; have K1 := Lib.hid k1; have K2 := Lib.hid k2; clear k1 k2 hcell hEr)
        | (go_at_call 43; (with_reducible refine (take_any _ _ _ _ _ _ K1.out (fun h => absurd h Hn.out)).mono ?_); rintro e w4 ⟨a, cap, rfl, _, _, _, k3, k4⟩; rw [takeL_ne Hn.out, takeE_ne Hn.out] at k3; obtain ⟨a1, cap1, hd, _⟩ := k3.ex; have hd1 := two_cell1 hd; have K3 := Lib.hid k3; have K4 := Lib.hid (K2.out.trans k4); clear k3 k4 hd))
      go_ret
      exact ⟨rfl, K3.out, K4.out⟩
    · have t0 : takeE l er (4 + srcTN l) = srcTE l er most := by
        unfold takeE srcTE; rw [if_neg h4, if_neg hm]
      have t2 : takeL l er (4 + srcTN l) = srcTL l er most := by
        unfold takeL srcTL; rw [t0, show (4 + srcTN l).toNat = 4 + (srcTN l).toNat by omega]
      have t1 : (takeR l er (4 + srcTN l)).drop 4 = srcTV l er most := by
        unfold takeR srcTV; rw [t0, show (4 + srcTN l).toNat = 4 + (srcTN l).toNat by omega]
        split
        · rw [List.drop_take, Nat.add_sub_cancel_left]
        · rfl
      have t3 : srcTE l er most = 0 → 4 ≤ (takeR l er (4 + srcTN l)).length := by
        intro h
        unfold takeR
        rw [t0, if_pos h, show (4 + srcTN l).toNat = 4 + (srcTN l).toNat by omega]
        simp; omega
      have u2 : srcTE l er most ≠ 0 → strOfNums (srcTV l er most) = ByteArray.empty := by intro h; simp [srcTV, h]; rfl
      have ht := take_any w s g l er (4 + srcTN l) H.out (fun _ => by omega)
      unfold Took at ht
      rw [t0, t2] at ht
      have HT := Lib.hid ht
      clear ht t0 t2
      have T1 := Lib.hid t1
      have T3 := Lib.hid t3
      have U2 := Lib.hid u2
      clear t1 t3 u2
      generalize srcTE l er most = e1 at *
      generalize takeR l er (4 + srcTN l) = r at *
      generalize srcTV l er most = t at *
      generalize srcTN l = N at *
      by_cases hz : e1 = 0
      · have h4r := T3.out hz
        subst hz
        go_enter Try.func32, Try.ntmps32
        go_wp2_with (first
          | (go_at_call 11; (with_reducible refine HG.out.mono ?_); rintro e w3 ⟨rfl, rfl⟩)
          | (go_at_call 43; (with_reducible refine HT.out.mono ?_); rintro e w4 ⟨a, cap, rfl, c8, hrc, _, k3, k4⟩; obtain ⟨a1, cap1, hd, _⟩ := k3.ex; have hd1 := two_cell1 hd; have K3 := Lib.hid k3; have K4 := Lib.hid k4; obtain ⟨b, o, rfl, _⟩ := c8.addr (by omega); have F1 := fun c => run_str (c8.drop 4) 23 9 5 (r.length - 4) c Try.underlying23 Try.underlying5 Try.underlying9 (by simp); rw [T1.out] at F1; have F2 := fun (h : cap = 4) c => conv_end (w := w4) (a := some ⟨b, o, none⟩) T1 hrc h c; clear k3 k4 hd c8))
        all_goals go_ret
        all_goals exact ⟨rfl, K3.out, K4.out⟩
      · have hB1 : (e1 != 0) = true := by simpa using hz
        have hv := U2.out hz
        rw [hv]
        clear hv
        go_enter Try.func32, Try.ntmps32
        go_wp2_with (first
          | (go_at_call 11; (with_reducible refine HG.out.mono ?_); rintro e w3 ⟨rfl, rfl⟩)
          | (go_at_call 43; (with_reducible refine HT.out.mono ?_); rintro e w4 ⟨a, cap, rfl, _, _, _, k3, k4⟩; obtain ⟨a1, cap1, hd, _⟩ := k3.ex; have hd1 := two_cell1 hd; have K3 := Lib.hid k3; have K4 := Lib.hid k4; clear k3 k4 hd))
        go_ret
        exact ⟨rfl, K3.out, K4.out⟩
end Go.Proofs.Ytdgghfmhnidegaa
