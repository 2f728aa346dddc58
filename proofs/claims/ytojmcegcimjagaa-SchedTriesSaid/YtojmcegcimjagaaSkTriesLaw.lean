/- SchedTries: behind just so many failures a message is expired, before it isn't. -/
import Derived.Test.YtojmcegcimjagaaSkH
import Derived.Test.YtojmcegcimjagaaSkZ
namespace Go.Proofs.Ytojmcegcimjagaa
open Go.Shelf Go.ChangeShapes Go.WideShapes Go.ChangeAt Go.RowKit
set_option linter.unusedVariables false
set_option linter.unusedSimpArgs false

theorem expT_at {l : List Int} {x ar : Int} {i : Nat} {b : Bool} (h : goodT l x = true) (h0 : 0 ≤ ar) (h1 : ar ≤ 1099511627776) (hi : i ≤ 1001) (hb : decide (x ≤ pre l i) = b) : expT l x ar (ar + pre l i) = b := by
  have p0 := pre_mono h (Nat.zero_le i)
  have p1 := pre_le h i
  simp only [pre] at p0
  have t1 : timeB ar = true := timeB_iff.2 ⟨h0, by unfold MT; omega⟩
  have t2 : timeB (ar + pre l i) = true := timeB_iff.2 ⟨by omega, by unfold MT; omega⟩
  rw [← hb]
  simp only [expT, h, t1, t2, Bool.true_and]
  rw [Bool.eq_iff_iff]; simp
theorem failS_at {l : List Int} {x ar c : Int} {i : Nat} (h : goodT l x = true) (h0 : 0 ≤ ar) (h1 : ar ≤ 1099511627776) (hi : i ≤ 1000) : failS l x ⟨0, i, ar + pre l i, c⟩ (ar + pre l i) 452 = ⟨0, ((i + 1 : Nat) : Int), ar + pre l (i + 1), 452⟩ := by
  have p0 := pre_mono h (Nat.zero_le i)
  have p1 := pre_le h i
  simp only [pre] at p0
  have hu : upT (i : Int) = ((i + 1 : Nat) : Int) := by unfold upT; rw [if_pos (by omega)]; omega
  have hd : delT l x ((i + 1 : Nat) : Int) = dly l i := by
    unfold delT; rw [if_pos (by simp [h]; omega), show ((i + 1 : Nat) : Int).toNat - 1 = i by omega]
  have hb := dly_bounds h i
  unfold failS
  dsimp only
  rw [hu]
  have e : pre l (i + 1) = pre l i + dly l i := rfl
  have hq : dueT l x ((i + 1 : Nat) : Int) (ar + pre l i) = ar + pre l (i + 1) := by
    unfold dueT MT; rw [hd, e]; omega
  rw [hq]
/-- a table in memory -/
structure TrG (g : Nat) (w0 w : World) (a : Option Addr) (cap : Nat) (l : List Int) (x : Int) : Prop where
  tab : w.heap[g]? = some (.cells (rtC a l.length cap x) 24 (0, 0))
  ds : CellsI w a l
  mod : Mod [] w0 w
theorem TrG.quiet {g : Nat} {w0 w w' : World} {a : Option Addr} {cap : Nat} {l : List Int} {x : Int} (h : TrG g w0 w a cap l x) (hm : Mod [] w w') : TrG g w0 w' a cap l x := ⟨hm.row h.tab (by simp), h.ds.quiet hm, h.mod.trans hm⟩
/-- a table and, behind it, the state that is tried again and again -/
structure TrW (g gs : Nat) (w0 w : World) (a : Option Addr) (cap : Nat) (l : List Int) (x : Int) (s : TSt) : Prop where
  tab : TrG g w0 w a cap l x
  st : w.heap[gs]? = some (.cells (stC s) 26 (0, 0))
theorem TrW.quiet {g gs : Nat} {w0 w w' : World} {a : Option Addr} {cap : Nat} {l : List Int} {x : Int} {s : TSt} (h : TrW g gs w0 w a cap l x s) (hm : Mod [] w w') : TrW g gs w0 w' a cap l x s := ⟨h.tab.quiet hm, hm.row h.st (by simp)⟩
theorem TrW.set {g gs : Nat} {w0 w w' : World} {a : Option Addr} {cap : Nat} {l : List Int} {x : Int} {s s' : TSt} (h : TrW g gs w0 w a cap l x s) (hm : Mod [gs] w w') (hr : w'.heap[gs]? = some (.cells (stC s') 26 (0, 0))) (hg : g < gs) (h0 : w0.heap.size ≤ gs) (hb : ∀ p, a = some p → p.block < gs) : TrW g gs w0 w' a cap l x s' := by
  refine ⟨⟨hm.row h.tab.tab (by simp; omega), ?_, retMod h.tab.mod hm h0⟩, hr⟩
  rcases h.tab.ds with h1 | ⟨b, o, rfl, hb', hc⟩
  · exact .inl h1
  · exact .inr ⟨b, o, rfl, Nat.lt_of_lt_of_le hb' hm.size, fun i hi => hm.cell (hc i hi) (by have := hb _ rfl; simp at this ⊢; omega)⟩
/-- what the law asks of a great number -/
theorem far_facts {l : List Int} {x : Int} {n : Nat} (h : goodT l x = true) (hn : Least l x n) (hg : 1000 < n) : ∃ r : Int, (n : Int) - l.length = r ∧ 0 < r ∧ r ≤ 1099511627776 ∧ 0 ≤ totI l ∧ totI l ≤ 34359738368 ∧ 0 ≤ r * lastD l ∧ 0 ≤ (r - 1) * lastD l ∧ r * lastD l ≤ 1106000000000 ∧ (r - 1) * lastD l ≤ 1106000000000 ∧ x ≤ totI l + r * lastD l ∧ totI l + (r - 1) * lastD l < x := by
  have h1 := (goodT_iff.1 h).1
  have h2 := (goodT_iff.1 h).2.1
  obtain ⟨c1, c2⟩ := least_far h hn (by omega)
  have hle := least_le h hn
  have hp := pre_tot (l := l) l.length (Nat.le_refl _)
  rw [List.take_length] at hp
  have p0 := pre_mono h (Nat.zero_le l.length)
  have p1 := pre_le h l.length
  simp only [pre] at p0
  have hl := dly_bounds h (l.length - 1)
  have hld : dly l (l.length - 1) = lastD l := by unfold dly lastD; rw [Nat.min_self]
  rw [hld] at hl
  refine ⟨_, rfl, by omega, by omega, by omega, by omega, ?_⟩
  have e0 : ((n : Int) - l.length - 1) * lastD l = ((n : Int) - l.length) * lastD l - lastD l := by rw [Int.sub_mul ((n : Int) - l.length) 1, Int.one_mul]
  have q0 : 0 ≤ ((n : Int) - l.length) * lastD l := Int.mul_nonneg (by omega) (by omega)
  have q1 : 0 ≤ ((n : Int) - l.length - 1) * lastD l := Int.mul_nonneg (by omega) (by omega)
  rw [e0] at c2 q1 ⊢
  generalize ((n : Int) - l.length) * lastD l = p at *
  omega
theorem fail_step {l : List Int} {x ar : Int} (hg : goodT l x = true) (h0 : 0 ≤ ar) (h1 : ar ≤ 1099511627776) (hl : l.length ≤ 9223372036854775807) (a : Option Addr) (cap : Nat) (i : Nat) (c : Int) (hi : i ≤ 1000) (W : World) (h : CellsI W a l) :
    Calls Try.prog 14 #[.agg (rtC a l.length cap x), .agg (stC ⟨0, i, ar + pre l i, c⟩), .int .i64 (ar + pre l i), .int .i64 452] W (StP ⟨0, (i : Int) + 1, ar + pre l (i + 1), 452⟩ W) := by
  have p0 := pre_mono hg (Nat.zero_le i)
  simp only [pre] at p0
  have hf := fail_any a cap l x ⟨0, i, ar + pre l i, c⟩ (ar + pre l i) 452 W h hl (by dsimp only; omega) (by omega)
  rw [failS_at hg h0 h1 hi, show ((i + 1 : Nat) : Int) = (i : Int) + 1 by omega] at hf
  exact hf
theorem exp_step {l : List Int} {x ar : Int} (hg : goodT l x = true) (h0 : 0 ≤ ar) (h1 : ar ≤ 1099511627776) (hl : l.length ≤ 9223372036854775807) (a : Option Addr) (cap : Nat) (i : Nat) (b : Bool) (hi : i ≤ 1001) (hb : decide (x ≤ pre l i) = b) (W : World) (h : CellsI W a l) :
    Calls Try.prog 12 #[.agg (rtC a l.length cap x), .int .i64 ar, .int .i64 (ar + pre l i)] W (BoolP b W) := expired_is (expT_at hg h0 h1 hi hb) a cap W h hl
theorem tot_bounds {l : List Int} {x : Int} (h : goodT l x = true) {k : Nat} (hk : k ≤ l.length) : 0 ≤ totI (l.take k) ∧ totI (l.take k) ≤ 34359738368 := by
  have h1 := (goodT_iff.1 h).1
  have hp := pre_tot (l := l) k hk
  have p0 := pre_mono h (Nat.zero_le k)
  have p1 := pre_le h k
  simp only [pre] at p0
  omega
theorem tot_next {l : List Int} {k : Nat} (hk : k < l.length) : totI (l.take (k + 1)) = totI (l.take k) + l.getD k 0 := by
  rw [take_getD hk, totI_append]; simp [totI]
set_option maxRecDepth 100000 in
set_option maxHeartbeats 8000000 in
theorem qtries_any (a0 : Option Addr) (n0 cap : Nat) (l : List Int) (x : Int) (ar : Int) (w : World) (hC : CellsI w a0 l) (hn : n0 = l.length) (hl : l.length ≤ 9223372036854775807) (hcap : l.length ≤ cap) :
    Calls Try.prog 4 #[.agg (rtC a0 n0 cap x), .int .i64 ar] w (BoolP true w) := by
  subst hn
  unfold BoolP
  have hAw := awake_any
  unfold BoolP at hAw
  have HAw := Lib.hid hAw
  have hm0 := (Mod.refl [] w).alloc (.cells (rtC a0 l.length cap x) 24)
  have HA := Lib.hid (show TrG w.heap.size w (w.alloc (.cells (rtC a0 l.length cap x) 24)) a0 cap l x from ⟨heap_alloc_new w _, hC.quiet hm0, hm0⟩)
  have HB := Lib.hid (show ∀ p, 0 < l.length → a0 = some p → p.block < w.heap.size from fun p h0 hp => by
    obtain ⟨b, o, ha, hb⟩ := hC.addr h0
    rw [ha] at hp; simp at hp; subst hp; exact hb)
  clear hAw hC hm0
  cases hg : goodT l x
  case false =>
    have HRG := Lib.hid (fun W h => rgood_is hg a0 cap W h hl)
    have HT := Lib.hid (fun W h => tries_is (show triesT l x = 0 by rw [triesT, hg]; rfl) a0 cap W h hl hcap)
    unfold BoolP at HRG
    unfold IntP at HT
    clear hg hl hcap
    go_enter Try.func4, Try.ntmps4
    go_wp2_with (first | (go_at_call 6; (refine (HAw.out _).mono ?_); rintro e w1 ⟨rfl, hm⟩; have H1 := Lib.hid (HA.out.quiet hm); have k0 := blk_cell H1.out.tab 0; have k1 := blk_cell H1.out.tab 1; clear hm) | (go_at_call 18; (refine (HT.out _ H1.out.ds).mono ?_); rintro e w2 ⟨rfl, hm⟩; have H2 := Lib.hid (H1.out.quiet hm); have j0 := blk_cell H2.out.tab 0; have j1 := blk_cell H2.out.tab 1; clear hm) | (go_at_call 8; (refine (HRG.out _ H2.out.ds).mono ?_); rintro e w3 ⟨rfl, hm⟩; have H3 := Lib.hid (H2.out.quiet hm); clear hm))
    go_ret
    exact ⟨rfl, H3.out.mod⟩
  case true =>
    obtain ⟨n, hnT, hL⟩ := triesT_least hg
    have hlen := (goodT_iff.1 hg).1
    have HRG := Lib.hid (fun W h => rgood_is hg a0 cap W h hl)
    have HT := Lib.hid (fun W h => tries_is hnT a0 cap W h hl hcap)
    unfold BoolP at HRG
    unfold IntP at HT
    have HG := Lib.hid hg
    have HL := Lib.hid hL
    clear hnT hL hcap hg
    by_cases hbig : 1000 < n
    · have hbig' : (1000 : Int) < (n : Int) := by omega
      obtain ⟨r, hr, r0, r1, t0, t1, q0, q1, q2, q3, c1, c2⟩ := far_facts HG.out HL.out hbig
      have HGd := Lib.hid (fun k hk => good_d (k := k) HG.out hk)
      clear hbig
      go_enter Try.func4, Try.ntmps4
      go_wp2_with (first | (go_at_call 6; (refine (HAw.out _).mono ?_); rintro e w1 ⟨rfl, hm⟩; have H1 := Lib.hid (HA.out.quiet hm); have k0 := blk_cell H1.out.tab 0; have k1 := blk_cell H1.out.tab 1; clear hm) | (go_at_call 18; (refine (HT.out _ H1.out.ds).mono ?_); rintro e w2 ⟨rfl, hm⟩; have H2 := Lib.hid (H1.out.quiet hm); clear k0 k1; have k0 := blk_cell H2.out.tab 0; have k1 := blk_cell H2.out.tab 1; clear hm) | (go_at_call 8; (refine (HRG.out _ H2.out.ds).mono ?_); rintro e w3 ⟨rfl, hm⟩; have H3 := Lib.hid (H2.out.quiet hm); clear k0 k1; have k0 := blk_cell H3.out.tab 0; have k1 := blk_cell H3.out.tab 1; clear hm))
      -- [loop1
      clear k1
      have HTb := Lib.hid (fun k hk => tot_bounds (k := k) HG.out hk)
      have HTn := Lib.hid (fun k hk => tot_next (l := l) (k := k) hk)
      have HF := Lib.hid (And.intro c1 c2)
      have HQ := Lib.hid (And.intro q0 (And.intro q1 (And.intro q2 q3)))
      clear c1 c2 q0 q1 q2 q3
      have k1 := blk_cell H3.out.tab 1
      generalize hg0 : w.heap.size = g0 at *
      clear hg0
      go_loop [6, 7] (fun u v => ∃ k : Nat, u = .int .i64 (totI (l.take k)) ∧ v = .int .i64 k ∧ k ≤ l.length) (fun _ v => l.length - (intOf v).toNat)
      case atStart => exact ⟨0, rfl, rfl, Nat.zero_le _⟩
      case round =>
        obtain ⟨k, rfl, rfl, hk⟩ := hrel
        by_cases hlt : k < l.length
        · obtain ⟨b, o, ha, -⟩ := H3.out.ds.addr (by omega)
          have hix := ixa (P := Try.prog) 22 3 Try.underlying22 1 size_int a0 b o l.length cap k ha hlt
          rw [Nat.mul_one] at hix
          have hcell := (ha ▸ H3.out.ds : CellsI _ (some ⟨b, o, none⟩) l).at k hlt
          obtain ⟨g1, g2⟩ := HGd.out k hlt
          obtain ⟨b1, b2⟩ := HTb.out k hk
          have HN := Lib.hid (HTn.out k hlt)
          clear ha
          generalize l.getD k 0 = d at *
          generalize totI (l.take k) = tk at *
          go_wp2_with fail
          go_round
          case rel => exact ⟨k + 1, by rw [HN.out], by go_num, by omega⟩
          case measure => simp [intOf]; omega
        · have hkl : k = l.length := by omega
          subst hkl
          rw [List.take_length]
          obtain ⟨q, hq⟩ : ∃ q, l.length - 1 = q := ⟨_, rfl⟩
          have hqi : (l.length : Int) - 1 = (q : Int) := by omega
          have hql : q < l.length := by omega
          obtain ⟨b, o, ha, -⟩ := H3.out.ds.addr (by omega)
          have hix := ixa (P := Try.prog) 22 3 Try.underlying22 1 size_int a0 b o l.length cap q ha hql
          rw [Nat.mul_one] at hix
          have hcell := (ha ▸ H3.out.ds : CellsI _ (some ⟨b, o, none⟩) l).at q hql
          have hld : l.getD q 0 = lastD l := by unfold lastD; rw [hq]
          rw [hld] at hcell
          obtain ⟨c1, c2⟩ := HF.out
          obtain ⟨q0, q1, q2, q3⟩ := HQ.out
          clear ha hq hld hlt hk
          generalize lastD l = d at *
          generalize totI l = tt at *
          have d1 : decide (x ≤ tt + r * d) = true := by simpa using c1
          have d2 : decide (tt + (r - 1) * d < x) = true := by simpa using c2
          go_wp2_with fail
          go_ret
          exact ⟨rfl, H3.out.mod⟩
      -- loop1]
    · have hbig' : (n : Int) ≤ 1000 := by omega
      by_cases ha0 : ar < 0
      · clear hbig
        go_enter Try.func4, Try.ntmps4
        go_wp2_with (first | (go_at_call 6; (refine (HAw.out _).mono ?_); rintro e w1 ⟨rfl, hm⟩; have H1 := Lib.hid (HA.out.quiet hm); have k0 := blk_cell H1.out.tab 0; have k1 := blk_cell H1.out.tab 1; clear hm) | (go_at_call 18; (refine (HT.out _ H1.out.ds).mono ?_); rintro e w2 ⟨rfl, hm⟩; have H2 := Lib.hid (H1.out.quiet hm); clear k0 k1; have k0 := blk_cell H2.out.tab 0; have k1 := blk_cell H2.out.tab 1; clear hm) | (go_at_call 8; (refine (HRG.out _ H2.out.ds).mono ?_); rintro e w3 ⟨rfl, hm⟩; have H3 := Lib.hid (H2.out.quiet hm); clear k0 k1; have k0 := blk_cell H3.out.tab 0; have k1 := blk_cell H3.out.tab 1; clear hm))
        go_ret
        exact ⟨rfl, H3.out.mod⟩
      · have ha0' : decide (ar < 0) = false := by simp; omega
        by_cases ha1 : 1099511627776 < ar
        · clear hbig ha0
          go_enter Try.func4, Try.ntmps4
          go_wp2_with (first | (go_at_call 6; (refine (HAw.out _).mono ?_); rintro e w1 ⟨rfl, hm⟩; have H1 := Lib.hid (HA.out.quiet hm); have k0 := blk_cell H1.out.tab 0; have k1 := blk_cell H1.out.tab 1; clear hm) | (go_at_call 18; (refine (HT.out _ H1.out.ds).mono ?_); rintro e w2 ⟨rfl, hm⟩; have H2 := Lib.hid (H1.out.quiet hm); clear k0 k1; have k0 := blk_cell H2.out.tab 0; have k1 := blk_cell H2.out.tab 1; clear hm) | (go_at_call 8; (refine (HRG.out _ H2.out.ds).mono ?_); rintro e w3 ⟨rfl, hm⟩; have H3 := Lib.hid (H2.out.quiet hm); clear k0 k1; have k0 := blk_cell H3.out.tab 0; have k1 := blk_cell H3.out.tab 1; clear hm))
          go_ret
          exact ⟨rfl, H3.out.mod⟩
        · have HEx := Lib.hid (fun i b hi hb W h => exp_step (ar := ar) HG.out (by omega) (by omega) hl a0 cap i b hi hb W h)
          have HFl := Lib.hid (fun i c hi W h => fail_step (ar := ar) HG.out (by omega) (by omega) hl a0 cap i c hi W h)
          have ha1' : decide (1099511627776 < ar) = false := by simp; omega
          have hb1 : decide (1000 < (n : Int)) = false := by simp; omega
          have hn1 : n ≤ 1000 := by omega
          unfold BoolP at HEx
          unfold StP at HFl
          clear hbig hbig' ha0 ha1 hl
          go_enter Try.func4, Try.ntmps4
          go_wp2_with (first | (go_at_call 6; (refine (HAw.out _).mono ?_); rintro e w1 ⟨rfl, hm⟩; have H1 := Lib.hid (HA.out.quiet hm); have k0 := blk_cell H1.out.tab 0; have k1 := blk_cell H1.out.tab 1; clear hm) | (go_at_call 18; (refine (HT.out _ H1.out.ds).mono ?_); rintro e w2 ⟨rfl, hm⟩; have H2 := Lib.hid (H1.out.quiet hm); clear k0 k1; have k0 := blk_cell H2.out.tab 0; have k1 := blk_cell H2.out.tab 1; clear hm) | (go_at_call 8; (refine (HRG.out _ H2.out.ds).mono ?_); rintro e w3 ⟨rfl, hm⟩; have H3 := Lib.hid (H2.out.quiet hm); clear k0 k1; have k0 := blk_cell H3.out.tab 0; have k1 := blk_cell H3.out.tab 1; clear hm))
          have hgs := blk_lt H3.out.tab
          have hbl : ∀ p, a0 = some p → p.block < w3.heap.size := fun p hp => by
            obtain ⟨b, o, ha, hb⟩ := H3.out.ds.addr (by omega)
            rw [ha] at hp; simp at hp; subst hp; exact hb
          have HGs := Lib.hid (And.intro hgs (And.intro H3.out.mod.size hbl))
          have hm4 := (Mod.refl [] w3).alloc (.cells (stC ⟨0, 0, ar, 0⟩) 26)
          have HW0 := Lib.hid (show TrW w.heap.size w3.heap.size w (w3.alloc (.cells (stC ⟨0, 0, ar, 0⟩) 26)) a0 cap l x ⟨0, (0 : Nat), ar + pre l 0, 0⟩ from ⟨H3.out.quiet hm4, by rw [show ar + pre l 0 = ar by simp [pre]]; exact heap_alloc_new w3 _⟩)
          clear hgs hbl hm4 HA H1 H2 H3 k0 k1 HAw HT HRG HB
          generalize hW : w3.alloc (.cells (stC ⟨0, 0, ar, 0⟩) 26) = W at *
          generalize hgs : w3.heap.size = gs at *
          clear hW hgs
          go_loopw [11] (fun v wr => ∃ (k : Nat) (c : Int), v = .int .i64 k ∧ k ≤ n ∧ TrW w.heap.size gs w wr a0 cap l x ⟨0, k, ar + pre l k, c⟩) (fun v _ => n - (intOf v).toNat)
          case atStart => exact ⟨0, 0, rfl, Nat.zero_le _, HW0.out⟩
          case round =>
            obtain ⟨k, c, rfl, hk, hw⟩ := hrel
            obtain ⟨dk, hdk⟩ : ∃ d, ar + pre l k = d := ⟨_, rfl⟩
            rw [hdk] at hw
            have HW := Lib.hid hw
            clear hw
            have k0 := blk_cell HW.out.tab.tab 0
            have k1 := blk_cell HW.out.tab.tab 1
            have s2 := blk_cell HW.out.st 2
            by_cases hlt : k < n
            · have hE := HEx.out k false (by omega) (by have := least_lt HG.out HL.out hlt; simp; omega)
              have hF := HFl.out k c (by omega)
              rw [hdk] at hE hF
              obtain ⟨dn, hdn⟩ : ∃ d, ar + pre l (k + 1) = d := ⟨_, rfl⟩
              rw [hdn] at hF
              have HE := Lib.hid hE
              have HF := Lib.hid hF
              have HDn := Lib.hid hdn
              clear hE hF hdk hdn
              go_wp2_with (first | (go_at_call 12; (with_reducible refine (HE.out _ HW.out.tab.ds).mono ?_); rintro e w5 ⟨rfl, hm⟩; have HW5 := Lib.hid (HW.out.quiet hm); clear hm k0 k1 s2; have k0 := blk_cell HW5.out.tab.tab 0; have k1 := blk_cell HW5.out.tab.tab 1; have s0 := blk_cell HW5.out.st 0; have s1 := blk_cell HW5.out.st 1; have s2 := blk_cell HW5.out.st 2; have s3 := blk_cell HW5.out.st 3) | (go_at_call 14; (with_reducible refine (HF.out _ HW5.out.tab.ds).mono ?_); rintro e w6 ⟨rfl, hm⟩; have HW6 := Lib.hid (HW5.out.quiet hm); clear hm k0 k1 s0 s1 s2 s3) | (refine wpList_store_all (by rfl) _ _ _ (by rfl) rfl gs 26 (stC ⟨0, (k : Int) + 1, dn, 452⟩) (stC ⟨0, k, dk, c⟩) rfl rfl st_size (st_one _) rfl HW6.out.st ?_; intro w7 hw7 mw7; have HW7 := Lib.hid (HW6.out.set mw7 hw7 HGs.out.1 HGs.out.2.1 HGs.out.2.2); clear hw7 mw7))
              refine ⟨⟨k + 1, 452, by go_num, by omega, ?_⟩, by simp [intOf]; omega⟩
              rw [HDn.out, show ((k + 1 : Nat) : Int) = (k : Int) + 1 by omega]
              exact HW7.out
            · have hkn : k = n := by omega
              subst hkn
              have hE := HEx.out k true (by omega) (by have := HL.out.2.2; simpa using this)
              rw [hdk] at hE
              have HE := Lib.hid hE
              clear hE hdk
              go_wp2_with (go_at_call 12; (with_reducible refine (HE.out _ HW.out.tab.ds).mono ?_); rintro e w5 ⟨rfl, hm⟩; have HW5 := Lib.hid (HW.out.quiet hm); clear hm k0 k1 s2; have s1 := blk_cell HW5.out.st 1)
              go_ret
              exact ⟨rfl, HW5.out.tab.mod⟩
end Go.Proofs.Ytojmcegcimjagaa
