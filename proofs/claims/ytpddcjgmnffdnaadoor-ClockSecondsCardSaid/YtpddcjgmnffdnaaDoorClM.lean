/- Clock: the reference's Seconds, as a whole; its Parse. -/
import Derived.Test.YtpddcjgmnffdnaaDoorClK
import Derived.Test.YtpddcjgmnffdnaaDoorClL
import Derived.Test.YtpddcjgmnffdnaaDoorClH
namespace Go.Proofs.YtpddcjgmnffdnaaDoor
open Go.Shelf Go.ChangeShapes Go.WideShapes Go.ChangeAt Go.RowKit
set_option linter.unusedVariables false
set_option linter.unusedSimpArgs false

theorem rseconds_date (c : Dt) (N : Int) (w : World) (h : IsD N c) : Calls Tryd.prog 17 #[.agg (civC c)] w (SecP (timeD N c) w) := by
  have hv : secV N c = timeD N c := if_pos h.w
  obtain ⟨y, m, d, th, tn, ts, tw⟩ := c
  rw [← hv]
  exact rsec_in y m d th tn ts tw N w h.is h.d0 h.d1 h.h0 h.h1 h.n0 h.n1 h.s0 h.s1
theorem rseconds_none (y m d th tn ts tw : Int) (w : World) (h : ∀ N, ¬ IsD N ⟨y, m, d, th, tn, ts, tw⟩) : Calls Tryd.prog 17 #[.agg (civ7 y m d th tn ts tw)] w (SecP (-1) w) := by
  by_cases c0 : d < 1
  · exact rsec_no0 y m d th tn ts tw w c0
  by_cases c1 : mdI y m < d
  · exact rsec_no1 y m d th tn ts tw w (by omega) c1
  by_cases c2 : th < 0
  · exact rsec_no2 y m d th tn ts tw w (by omega) (by omega) c2
  by_cases c3 : 23 < th
  · exact rsec_no3 y m d th tn ts tw w (by omega) (by omega) (by omega) c3
  by_cases c4 : tn < 0
  · exact rsec_no4 y m d th tn ts tw w (by omega) (by omega) (by omega) (by omega) c4
  by_cases c5 : 59 < tn
  · exact rsec_no5 y m d th tn ts tw w (by omega) (by omega) (by omega) (by omega) (by omega) c5
  by_cases c6 : ts < 0
  · exact rsec_no6 y m d th tn ts tw w (by omega) (by omega) (by omega) (by omega) (by omega) (by omega) c6
  by_cases c7 : 59 < ts
  · exact rsec_no7 y m d th tn ts tw w (by omega) (by omega) (by omega) (by omega) (by omega) (by omega) (by omega) c7
  have hh := rsec_in y m d th tn ts tw _ w rfl (by omega) (by omega) (by omega) (by omega) (by omega) (by omega) (by omega) (by omega)
  have hv : secV (dA y + mA y m + d - 1) ⟨y, m, d, th, tn, ts, tw⟩ = -1 := by
    unfold secV
    refine if_neg fun hw => h (dA y + mA y m + d - 1) ?_
    obtain ⟨y0, y1, m0, m1⟩ := mdI_pos (y := y) (m := m) (by omega)
    refine ⟨y0, y1, m0, m1, ?_, ?_, ?_, ?_, ?_, ?_, ?_, ?_, rfl, hw⟩ <;> simp only <;> omega
  rwa [hv] at hh
/-- a callee that only reads -/
abbrev GivesQ (f : FuncId) (args : Array Value) (v : Value) : Prop := ∀ W, Calls Tryd.prog f args W fun e w' => e = .returned v ∧ W = w'
theorem part0 (s : ByteArray) (b : Nat) (h2 : b ≤ s.size) : ∃ p : ByteArray, nums p = (nums s).take b ∧ p.size = b ∧ ∀ W, (Instr.slice 9 (.string s) none (some (.int .i64 b)) none).run Tryd.prog W = .ok (.string p) W := by
  refine ⟨s.extract 0 b, by rw [nums_extract]; simp, ?_, fun W => ?_⟩
  · rw [sz_nums (nums_extract s 0 b), List.length_take, List.length_drop, nums_length]; omega
  · rw [run_slice_string_to_if W _ s .i64 _ Tryd.underlying9, if_pos (by omega)]
    rfl
set_option maxRecDepth 100000 in
set_option maxHeartbeats 4000000 in
theorem rparse_walk (s : ByteArray) (w : World) (hs : s.size = 31) (pw pd pm py ph pn ps : ByteArray) (k d m y h n c t : Int) (hm0 : -1 ≤ m) (hm1 : m ≤ 100) (ht : t = -1 ∨ okT t = true)
    (ew : ∀ W, (Instr.slice 9 (.string s) none (some (.int .i64 3)) none).run Tryd.prog W = .ok (.string pw) W)
    (ed : ∀ W, (Instr.slice 9 (.string s) (some (.int .i64 5)) (some (.int .i64 7)) none).run Tryd.prog W = .ok (.string pd) W)
    (em : ∀ W, (Instr.slice 9 (.string s) (some (.int .i64 8)) (some (.int .i64 11)) none).run Tryd.prog W = .ok (.string pm) W)
    (ey : ∀ W, (Instr.slice 9 (.string s) (some (.int .i64 12)) (some (.int .i64 16)) none).run Tryd.prog W = .ok (.string py) W)
    (eh : ∀ W, (Instr.slice 9 (.string s) (some (.int .i64 17)) (some (.int .i64 19)) none).run Tryd.prog W = .ok (.string ph) W)
    (en : ∀ W, (Instr.slice 9 (.string s) (some (.int .i64 20)) (some (.int .i64 22)) none).run Tryd.prog W = .ok (.string pn) W)
    (es : ∀ W, (Instr.slice 9 (.string s) (some (.int .i64 23)) (some (.int .i64 25)) none).run Tryd.prog W = .ok (.string ps) W)
    (hw : GivesQ 29 #[.string ⟨#[77, 111, 110, 84, 117, 101, 87, 101, 100, 84, 104, 117, 70, 114, 105, 83, 97, 116, 83, 117, 110]⟩, .string pw] (.int .i64 k))
    (hd : GivesQ 30 #[.string pd] (.int .i64 d))
    (hm : GivesQ 29 #[.string ⟨#[74, 97, 110, 70, 101, 98, 77, 97, 114, 65, 112, 114, 77, 97, 121, 74, 117, 110, 74, 117, 108, 65, 117, 103, 83, 101, 112, 79, 99, 116, 78, 111, 118, 68, 101, 99]⟩, .string pm] (.int .i64 m))
    (hy : GivesQ 30 #[.string py] (.int .i64 y)) (hh : GivesQ 30 #[.string ph] (.int .i64 h)) (hn : GivesQ 30 #[.string pn] (.int .i64 n)) (hc : GivesQ 30 #[.string ps] (.int .i64 c))
    (hS : ∀ W, Calls Tryd.prog 17 #[.agg (civ7 y (m + 1) d h n c k)] W (SecP t W)) :
    Calls Tryd.prog 19 #[.string s] w (ParseP (parA s t) w) := by
  unfold ParseP
  unfold SecP at hS
  have Hw := Lib.hid hw
  have Hd := Lib.hid hd
  have Hm := Lib.hid hm
  have Hy := Lib.hid hy
  have Hh := Lib.hid hh
  have Hn := Lib.hid hn
  have Hc := Lib.hid hc
  have HS := Lib.hid hS
  have HT := Lib.hid ht
  have HSz := Lib.hid hs
  have hwr : IntKind.i64.wrap (m + 1) = m + 1 := wrap64_small (by omega) (by omega)
  have hsI : ((s.size : Int) == 31) = true := by rw [beq_iff_eq]; omega
  clear hs hw hd hm hy hh hn hc hS ht
  go_enter Tryd.func19, Tryd.ntmps19
  go_wp2_with fail
  go_region_held3 (fun _ => True) (trivial) (first
    | (go_at_call 29; first
      | ((with_reducible refine (Hw.out _).mono ?_); rintro e wn ⟨rfl, rfl⟩)
      | ((with_reducible refine (Hm.out _).mono ?_); rintro e wn ⟨rfl, rfl⟩))
    | (go_at_call 30; first
      | ((with_reducible refine (Hd.out _).mono ?_); rintro e wn ⟨rfl, rfl⟩)
      | ((with_reducible refine (Hy.out _).mono ?_); rintro e wn ⟨rfl, rfl⟩)
      | ((with_reducible refine (Hh.out _).mono ?_); rintro e wn ⟨rfl, rfl⟩)
      | ((with_reducible refine (Hn.out _).mono ?_); rintro e wn ⟨rfl, rfl⟩)
      | ((with_reducible refine (Hc.out _).mono ?_); rintro e wn ⟨rfl, rfl⟩)))
  all_goals
    rcases HT.out with ht | hk
    · subst ht
      have HR := Lib.hid (parA_no (s := s) (t := -1) (by simp [okT]))
      go_wp2_with (go_at_call 17; refine (HS.out _).mono ?_; rintro e w1 ⟨rfl, hm1⟩; have HM1 := Lib.hid (((Mod.refl [] w).alloc (.cells (civ7 y (m + 1) d h n c k) 24)).drew.trans hm1); clear hm1)
      go_ret2
      exact ⟨by rw [HR.out]; rfl, HM1.out⟩
    · have HC := Lib.hid (fun (W : World) => rstamp_yes t W hk)
      unfold StampP at HC
      have ht0 := (okT_iff.1 hk).1
      have hcmp : ((strOfNums (stampT t)).toList == s.toList) = decide (stampT t = nums s) := by
        have := str_eqB (stampD_bytes (okT.inD hk)) (nums_bytes s)
        rwa [strOfNums_nums] at this
      by_cases he : stampT t = nums s
      · have HR := Lib.hid (parA_yes hk he)
        rw [decide_eq_true he] at hcmp
        clear hk he
        generalize strOfNums (stampT t) = q at *
        go_wp2_with (first | (go_at_call 17; refine (HS.out _).mono ?_; rintro e w1 ⟨rfl, hm1⟩; have HM1 := Lib.hid (((Mod.refl [] w).alloc (.cells (civ7 y (m + 1) d h n c k) 24)).drew.trans hm1); clear hm1) | (go_at_call 11; refine (HC.out _).mono ?_; rintro e w2 ⟨rfl, hm2⟩; have HM2 := Lib.hid (HM1.out.trans hm2); clear hm2))
        go_ret2
        exact ⟨by rw [HR.out]; rfl, HM2.out⟩
      · have HR := Lib.hid (parA_no (s := s) (t := t) (fun h => he h.2))
        rw [decide_eq_false he] at hcmp
        clear hk he
        generalize strOfNums (stampT t) = q at *
        go_wp2_with (first | (go_at_call 17; refine (HS.out _).mono ?_; rintro e w1 ⟨rfl, hm1⟩; have HM1 := Lib.hid (((Mod.refl [] w).alloc (.cells (civ7 y (m + 1) d h n c k) 24)).drew.trans hm1); clear hm1) | (go_at_call 11; refine (HC.out _).mono ?_; rintro e w2 ⟨rfl, hm2⟩; have HM2 := Lib.hid (HM1.out.trans hm2); clear hm2))
        go_ret2
        exact ⟨by rw [HR.out]; rfl, HM2.out⟩
set_option maxHeartbeats 1000000 in
theorem rparse_short (s : ByteArray) (w : World) (hs : s.size ≠ 31) : Calls Tryd.prog 19 #[.string s] w (ParseP parNo w) := by
  unfold ParseP
  have hsI : ((s.size : Int) == 31) = false := by rw [beq_eq_false_iff_ne]; omega
  clear hs
  go_enter Tryd.func19, Tryd.ntmps19
  go_wp2_with fail
  go_ret2
  exact ⟨rfl, Mod.refl _ _⟩
/-- a name sought in a row of names -/
theorem find_yes (row p : ByteArray) (l : List Int) (N : Nat) (i : Int) (hl : nums row = l) (hN : row.size = 3 * N) (hN9 : N ≤ 100) (h0 : 0 ≤ i) (h1 : i < N) (hinj : ∀ a b : Int, 0 ≤ a → a < N → 0 ≤ b → b < N → nm3 l a = nm3 l b → a = b) (hp : nums p = nm3 l i) :
    GivesQ 29 #[.string row, .string p] (.int .i64 i) := fun W => by
  obtain ⟨k, rfl⟩ : ∃ k : Nat, i = (k : Int) := ⟨i.toNat, by omega⟩
  refine rfind_any row p k N k W hN hN9 (by omega) (fun j hj he => ?_) (Or.inr ⟨by omega, by rw [hl, hp], rfl⟩)
  have := hinj j k (by omega) (by omega) (by omega) (by omega) (by rw [← hl, he, hp, hl])
  omega
theorem find_some (row p : ByteArray) (N : Nat) (hN : row.size = 3 * N) (hN9 : N ≤ 99) : ∃ i : Int, -1 ≤ i ∧ i ≤ 99 ∧ GivesQ 29 #[.string row, .string p] (.int .i64 i) := by
  have key : ∀ k : Nat, k ≤ N → (∃ i, i < k ∧ nm3 (nums row) (i : Nat) = nums p ∧ ∀ j, j < i → nm3 (nums row) (j : Nat) ≠ nums p) ∨ ∀ j, j < k → nm3 (nums row) (j : Nat) ≠ nums p := by
    intro k
    induction k with
    | zero => intro _; right; intro j hj; omega
    | succ k ih =>
      intro hk
      rcases ih (by omega) with ⟨i, h1, h2⟩ | h
      · left; exact ⟨i, by omega, h2⟩
      · by_cases he : nm3 (nums row) (k : Nat) = nums p
        · left; exact ⟨k, by omega, he, h⟩
        · right
          intro j hj
          rcases (by omega : j < k ∨ j = k) with h' | h'
          · exact h j h'
          · subst h'; exact he
  rcases key N (Nat.le_refl _) with ⟨i, h1, h2, h3⟩ | h
  · exact ⟨i, by omega, by omega, fun W => rfind_any row p i N i W hN (by omega) (by omega) h3 (Or.inr ⟨h1, h2, rfl⟩)⟩
  · exact ⟨-1, by omega, by omega, fun W => rfind_any row p N N (-1) W hN (by omega) (Nat.le_refl _) h (Or.inl ⟨rfl, rfl⟩)⟩
theorem rparse_yes (s : ByteArray) (t : Int) (w : World) (hk : okT t = true) (h : nums s = stampT t) : Calls Tryd.prog 19 #[.string s] w (ParseP (.tuple #[.int .i64 t, .bool true]) w) := by
  have hd := dateT_is hk
  have hi := okT.inD hk
  have ht := dateT_time (okT_iff.1 hk).1
  have hl : s.size = 31 := by rw [sz_nums h]; exact stampD_length hi
  have hp := stampD_parts hi
  rw [show stampD (dateT t) = nums s from h.symm] at hp
  obtain ⟨q1, q2, q3, q4, q5, q6, q7⟩ := hp
  obtain ⟨pw, nw, zw, ew⟩ := part0 s 3 (by omega)
  obtain ⟨pd, nd, zd, ed⟩ := part s 5 7 (by omega) (by omega)
  obtain ⟨pm, nm, zm, em⟩ := part s 8 11 (by omega) (by omega)
  obtain ⟨py, ny, zy, ey⟩ := part s 12 16 (by omega) (by omega)
  obtain ⟨ph, nh, zh, eh⟩ := part s 17 19 (by omega) (by omega)
  obtain ⟨pn, nn, zn, en⟩ := part s 20 22 (by omega) (by omega)
  obtain ⟨ps, ns, zs, es⟩ := part s 23 25 (by omega) (by omega)
  have num : ∀ (p : ByteArray) (v : Int), p.size ≤ 4 → numRv (nums p) 0 = v → GivesQ 30 #[.string p] (.int .i64 v) := fun p v hp hv W => hv ▸ rnumber_any p W hp
  have gw := find_yes wkS pw wkL 7 (dateT t).w wkS_nums (by decide) (by decide) hi.w0 (by have := hi.w1; omega) (fun a b a0 a1 b0 b1 hab => nm3_wk_inj a0 (by omega) b0 (by omega) hab) (nw.trans q1)
  have gm := find_yes moS pm moL 12 ((dateT t).m - 1) moS_nums (by decide) (by decide) (by have := hi.m0; omega) (by have := hi.m1; omega) (fun a b a0 a1 b0 b1 hab => by
    have := nm3_mo_inj (i := a + 1) (j := b + 1) (by omega) (by omega) (by omega) (by omega) (by rw [show a + 1 - 1 = a by omega, show b + 1 - 1 = b by omega]; exact hab)
    omega) (nm.trans q3)
  have := rparse_walk s w hl pw pd pm py ph pn ps _ (dateT t).d _ (dateT t).y (dateT t).h (dateT t).n (dateT t).s t (by have := hi.m0; omega) (by have := hi.m1; omega) (Or.inr hk) ew ed em ey eh en es gw
    (num pd _ (by omega) (by rw [nd, q2]; exact numRv_d2 hi.d0 hi.d1)) gm
    (num py _ (by omega) (by rw [ny, q4]; exact numRv_d4 hi.y0 hi.y1))
    (num ph _ (by omega) (by rw [nh, q5]; exact numRv_d2 hi.h0 hi.h1))
    (num pn _ (by omega) (by rw [nn, q6]; exact numRv_d2 hi.n0 hi.n1))
    (num ps _ (by omega) (by rw [ns, q7]; exact numRv_d2 hi.s0 hi.s1))
    (fun W => by
      have h2 := rseconds_date (dateT t) _ W hd
      rw [ht] at h2
      rw [show (dateT t).m - 1 + 1 = (dateT t).m by omega]
      exact h2)
  rwa [parA_yes hk h.symm] at this
theorem rparse_no (s : ByteArray) (w : World) (h : ∀ t, okT t = true → nums s ≠ stampT t) : Calls Tryd.prog 19 #[.string s] w (ParseP parNo w) := by
  by_cases hl : s.size = 31
  · obtain ⟨pw, nw, zw, ew⟩ := part0 s 3 (by omega)
    obtain ⟨pd, nd, zd, ed⟩ := part s 5 7 (by omega) (by omega)
    obtain ⟨pm, nm, zm, em⟩ := part s 8 11 (by omega) (by omega)
    obtain ⟨py, ny, zy, ey⟩ := part s 12 16 (by omega) (by omega)
    obtain ⟨ph, nh, zh, eh⟩ := part s 17 19 (by omega) (by omega)
    obtain ⟨pn, nn, zn, en⟩ := part s 20 22 (by omega) (by omega)
    obtain ⟨ps, ns, zs, es⟩ := part s 23 25 (by omega) (by omega)
    have num : ∀ (p : ByteArray), p.size ≤ 4 → GivesQ 30 #[.string p] (.int .i64 (numRv (nums p) 0)) := fun p hp W => rnumber_any p W hp
    obtain ⟨k, k0, k1, gw⟩ := find_some wkS pw 7 (by decide) (by decide)
    obtain ⟨m, m0, m1, gm⟩ := find_some moS pm 12 (by decide) (by decide)
    obtain ⟨t, ht, hS⟩ : ∃ t, (t = -1 ∨ okT t = true) ∧ ∀ W, Calls Tryd.prog 17 #[.agg (civ7 (numRv (nums py) 0) (m + 1) (numRv (nums pd) 0) (numRv (nums ph) 0) (numRv (nums pn) 0) (numRv (nums ps) 0) k)] W (SecP t W) := by
      by_cases hh : ∃ N, IsD N ⟨numRv (nums py) 0, m + 1, numRv (nums pd) 0, numRv (nums ph) 0, numRv (nums pn) 0, numRv (nums ps) 0, k⟩
      · obtain ⟨N, hN⟩ := hh
        exact ⟨_, Or.inr hN.ok, fun W => rseconds_date _ N W hN⟩
      · exact ⟨-1, Or.inl rfl, fun W => rseconds_none _ _ _ _ _ _ _ W (fun N hN => hh ⟨N, hN⟩)⟩
    have := rparse_walk s w hl pw pd pm py ph pn ps _ _ _ _ _ _ _ t m0 (by omega) ht ew ed em ey eh en es gw (num pd (by omega)) gm (num py (by omega)) (num ph (by omega)) (num pn (by omega)) (num ps (by omega)) hS
    rwa [parA_no (fun hh => h t hh.1 hh.2.symm)] at this
  · exact rparse_short s w hl
end Go.Proofs.YtpddcjgmnffdnaaDoor
