/- FrameBack. -/
import Derived.Test.YtcciiameelabiaaDoorFrZ
namespace Go.Proofs.YtcciiameelabiaaDoor
open Go.ChangeShapes Go.WideShapes Go.ChangeAt Go.RowKit
set_option linter.unusedVariables false
set_option linter.unusedSimpArgs false

theorem endN_succ (ps : List KP) (j : Nat) (h : j < ps.length) : endN ps j < endN ps (j + 1) := by
  have h1 := rowL_take_len ps j h
  have h2 := (wrapL_length ps[j].kind ps[j].pay).1
  unfold endN; omega
theorem endN_mono (ps : List KP) : ∀ (i d : Nat), i + d ≤ ps.length → endN ps i + d ≤ endN ps (i + d) := by
  intro i d
  induction d with
  | zero => intro _; exact Nat.le_refl _
  | succ d ih => intro h; have h1 := ih (by omega); have h2 := endN_succ ps (i + d) (by omega); show _ ≤ endN ps (i + d + 1); omega
theorem ex_whole (ps : List KP) (c : Nat) : ∀ n, n ≤ ps.length → ∃ m, m ≤ n ∧ endN ps m ≤ c ∧ ∀ j, j < n → (endN ps (j + 1) ≤ c ↔ j < m) := by
  intro n
  induction n with
  | zero => intro _; exact ⟨0, by omega, by simp [endN, rowL_nil], by intro j hj; omega⟩
  | succ n ih =>
    intro h
    obtain ⟨m, h1, h2, h3⟩ := ih (by omega)
    by_cases he : endN ps (n + 1) ≤ c
    · refine ⟨n + 1, by omega, he, fun j hj => ?_⟩
      have hm := endN_mono ps (j + 1) (n - j) (by omega)
      rw [show j + 1 + (n - j) = n + 1 by omega] at hm
      constructor
      · intro _; omega
      · intro _; omega
    · refine ⟨m, by omega, h2, fun j hj => ?_⟩
      by_cases hjn : j < n
      · exact h3 j hjn
      · obtain rfl : j = n := by omega
        constructor
        · intro h; exact absurd h he
        · intro h; omega
theorem endV_get (ps : List KP) (n i : Nat) (h : i < n) : (endV ps n)[i]? = some (.int .i64 (endN ps (i + 1))) := by simp [endV, h]
/-- the ends in memory -/
theorem ends_cell {B : Nat} {w : World} {a : Option Addr} {cap n : Nat} {ps : List KP} (h : w.ownsRow B 3 1 (.slice a n cap) n (endV ps n)) {i : Nat} (hi : i < n) : ∃ g, a = some ⟨g, 0, none⟩ ∧ w.cell? ⟨g, i, none⟩ = some (.int .i64 (endN ps (i + 1))) := by
  obtain ⟨g, rfl, _⟩ := owns_addr h (by omega)
  exact ⟨g, rfl, by rw [h.cellAt i (by omega), endV_get ps n i hi]⟩

def RowQ (fs : List FV) (u er : Int) (w : World) (e : Ending) (w' : World) : Prop :=
  ∃ v, e = .returned (.tuple #[v, .int .i64 u, .int .i64 er]) ∧ Frs w.heap.size w' v fs ∧ Below w.heap.size w w'
set_option maxRecDepth 100000 in
set_option maxHeartbeats 4000000 in
theorem frameBack_any (ls : List (List Int)) (a : Option Addr) (n cap : Nat) (ks : List Int) (b : Option Addr) (m capb : Nat) (cut : Int) (w : World) (hc : LL w a ls) (hn : n = ls.length) (hk : Cells8 w b ks) (hm : m = ks.length) (hl : ls.length ≤ 9223372036854775807) (hkl : ks.length ≤ 9223372036854775807) (h0 : -9223372036854775808 ≤ cut) (h1 : cut ≤ 9223372036854775807) (ht : Halves w) :
    Calls Tryd.prog 8 #[.slice a n cap, .slice b m capb, .int .i64 cut] w fun e w' => e = .returned (.bool true) ∧ Below w.heap.size w w' := by
  subst hn
  subst hm
  have HA := Lib.hid (awake_any w ht)
  have HC := Lib.hid hc
  have HK := Lib.hid hk
  have HT := Lib.hid ht
  clear hc hk ht
  have HBk : Hid (∀ W, Below w.heap.size w W → Calls Tryd.prog 23 #[.slice a ls.length cap, .int .i64 1000] W fun e w' => e = .returned (.int .i64 (bulkS 1000 ls 0)) ∧ W = w') := Lib.hid fun W h => bulk_any ls a _ cap W (HC.out.old h) rfl hl
  have HBl : Hid (bulkS 1000 ls 0 ≤ 1000 → ∀ x ∈ ls, x.length ≤ 1000) := Lib.hid (fun h x hx => by have h1 := bulkS_le 1000 ls 0 h; have h2 := sumL_mem hx; omega)
  generalize bulkS 1000 ls 0 = bk at *
  by_cases hb1 : (1000 : Int) < (bk : Int)
  · go_enter Tryd.func8, Tryd.ntmps8
    go_wp2_with (first | (go_at_call 10; refine HA.out.mono ?_; rintro e w1 ⟨rfl, hb⟩; have HB := Lib.hid hb; clear hb) | (go_at_call 23; refine (HBk.out _ HB.out).mono ?_; rintro e w' ⟨rfl, rfl⟩))
    go_ret
    exact ⟨rfl, HB.out⟩
  by_cases hl30 : (30 : Int) < (ls.length : Int)
  · go_enter Tryd.func8, Tryd.ntmps8
    go_wp2_with (first | (go_at_call 10; refine HA.out.mono ?_; rintro e w1 ⟨rfl, hb⟩; have HB := Lib.hid hb; clear hb) | (go_at_call 23; refine (HBk.out _ HB.out).mono ?_; rintro e w' ⟨rfl, rfl⟩))
    go_ret
    exact ⟨rfl, HB.out⟩
  by_cases hkn : ks.length < ls.length
  · go_enter Tryd.func8, Tryd.ntmps8
    go_wp2_with (first | (go_at_call 10; refine HA.out.mono ?_; rintro e w1 ⟨rfl, hb⟩; have HB := Lib.hid hb; clear hb) | (go_at_call 23; refine (HBk.out _ HB.out).mono ?_; rintro e w' ⟨rfl, rfl⟩))
    go_ret
    exact ⟨rfl, HB.out⟩
  have HSm := Lib.hid (HBl.out (by omega))
  clear HBl
  have HRw : Hid (∀ W, Below w.heap.size w W → Calls Tryd.prog 24 #[.slice a ls.length cap, .slice b ks.length capb] W (RowsP (psOf ls ks) W)) := Lib.hid fun W h => rows_any ls a _ cap ks b _ capb W (HC.out.old h) rfl (HK.out.old h) rfl (by omega) (by omega) HSm.out hkl (HT.out.old h)
  have HPl := Lib.hid (psOf_length ls ks)
  have HGet := Lib.hid (fun i h => psOf_get ls ks i h)
  have HOk := Lib.hid (psOf_ok (ks := ks) HK.out.1 (fun x hx => ⟨(HC.out.bytes x hx).1, Nat.le_trans (HSm.out x hx) (by omega)⟩))
  have HLe : Hid ((rowL (psOf ls ks)).length ≤ 70000) := Lib.hid (by
    have h1 := rowL_le (psOf ls ks) 1000 (by
      intro x hx
      simp only [psOf, List.mem_map, List.mem_range] at hx
      obtain ⟨i, hi, rfl⟩ := hx
      exact HSm.out _ (getD_mem [] hi))
    rw [HPl.out] at h1
    have : ls.length * (19 + 2 * 1000) ≤ 30 * (19 + 2 * 1000) := Nat.mul_le_mul_right _ (by omega)
    omega)
  generalize psOf ls ks = ps at *
  go_enter Tryd.func8, Tryd.ntmps8
  go_wp2_with (first | (go_at_call 10; refine HA.out.mono ?_; rintro e w1 ⟨rfl, hb⟩; have HB := Lib.hid hb; clear hb) | (go_at_call 23; refine (HBk.out _ HB.out).mono ?_; rintro e w' ⟨rfl, rfl⟩))
  refine (HRw.out _ HB.out).mono ?_
  rintro e w2 ⟨va, ve, rfl, hrw⟩
  have HB2 := Lib.hid (HB.out.trans (hrw.all.below.mono HB.out.size))
  have HAl := Lib.hid hrw.all
  have HEn := Lib.hid hrw.ends
  obtain ⟨a2, c2, rfl⟩ := hrw.all.shape
  obtain ⟨a3, c3, rfl, _⟩ := owns_shape hrw.ends
  clear hrw HRw HBk HA
  rw [List.take_length] at HAl ⊢
  have hcap2 : (rowL ps).length ≤ c2 := owns_le HAl.out.own
  have HLen : Hid ((rowL ps).length = (rowL ps).length) := Lib.hid rfl
  have hlen7 : (rowL ps).length ≤ 70000 := HLe.out
  obtain ⟨len, hlen⟩ : ∃ len, (rowL ps).length = len := ⟨_, rfl⟩
  rw [hlen] at hcap2 hlen7 HAl ⊢
  have HLn := Lib.hid hlen
  have hpn : ps.length = ls.length := HPl.out
  rw [hpn] at HEn ⊢
  have HCases : ∃ c : Nat, c ≤ len ∧ ((cut < 0 ∨ (len : Int) < cut) ∧ c = len ∨ cut = (c : Int)) := by
    by_cases h : cut < 0 ∨ (len : Int) < cut
    · exact ⟨len, by omega, Or.inl ⟨h, rfl⟩⟩
    · exact ⟨cut.toNat, by omega, Or.inr (by omega)⟩
  obtain ⟨c, hcl, hcs⟩ := HCases
  obtain ⟨mm, hm1, hm2, hm3⟩ := ex_whole ps c ps.length (Nat.le_refl _)
  have HM3 := Lib.hid hm3
  have HM2 := Lib.hid hm2
  have hmn : mm ≤ ls.length := by omega
  have HRC : Hid (rowK ((rowL ps).take c) mm = ⟨frsOf 0 (ps.take mm), endN ps mm⟩ ∧ RowEnd ((rowL ps).take c) mm ∧ rowEr ((rowL ps).take c) (rowK ((rowL ps).take c) mm) = if c = endN ps mm then 0 else 2) := Lib.hid (by
    have hcl' : c ≤ (rowL ps).length := by omega
    refine ⟨row_cut HOk.out hcl' (by omega) hm2 mm (Nat.le_refl _), row_cut_end HOk.out hcl' (by omega) hm2 (fun h => ?_)⟩
    have := hm3 mm h
    unfold endN at this
    omega)
  clear hm1 hm2 hm3 hpn hlen
  rcases hcs with ⟨hcut | hcut, rfl⟩ | rfl
  all_goals
    go_wp2_with fail
    go_loop [9, 10] (fun q i => ∃ j k : Nat, j ≤ ls.length ∧ i = .int .i64 j ∧ q = .int .i64 k ∧ k ≤ 30 ∧ (j ≤ mm → k = j) ∧ (mm ≤ j → k = mm)) (fun _ i => (ls.length - intOf i).toNat)
    case atStart => exact ⟨0, 0, by omega, rfl, rfl, by omega, by omega, by omega⟩
    case round =>
      obtain ⟨j, k, hj, rfl, rfl, hk30, hk1, hk2⟩ := hrel
      have HK1 := Lib.hid hk1
      have HK2 := Lib.hid hk2
      clear hk1 hk2
      by_cases hlt : j < ls.length
      · obtain ⟨ge, rfl, hcell⟩ := ends_cell HEn.out hlt
        have hiff := HM3.out j (by have := HPl.out; omega)
        have hjI : (j : Int) < (ls.length : Int) := by omega
        have hj0I : (0 : Int) ≤ (j : Int) := by omega
        by_cases hle : endN ps (j + 1) ≤ c
        · have HJ : Hid (j < mm) := Lib.hid (hiff.1 hle)
          clear hiff
          generalize endN ps (j + 1) = ee at *
          go_wp2_with fail
          go_round
          case rel => exact ⟨j + 1, j + 1, by omega, by go_num, by go_num, by omega, fun _ => rfl, fun h => by have := HJ.out; omega⟩
          case measure => simp [intOf]; omega
        · have HJ : Hid (mm ≤ j) := Lib.hid (by rcases Nat.lt_or_ge j mm with h | h; exact absurd (hiff.2 h) hle; exact h)
          clear hiff
          generalize endN ps (j + 1) = ee at *
          go_wp2_with fail
          go_round
          case rel => exact ⟨j + 1, k, by omega, by go_num, rfl, by omega, fun h => by have := HJ.out; omega, fun _ => HK2.out HJ.out⟩
          case measure => simp [intOf]; omega
      · obtain rfl : j = ls.length := by omega
        obtain rfl : mm = k := (HK2.out hmn).symm
        clear HK1 HK2 hj hlt HM3
        have hcc2 : (c : Int) ≤ (c2 : Int) := by omega
        have hc0 : (0 : Int) ≤ (c : Int) := by omega
        have HRow : Hid (Calls Tryd.prog 18 #[.slice a2 c c2] w2 (RowQ (frsOf 0 (ps.take mm)) (endN ps mm) (if c = endN ps mm then 0 else 2) w2)) := Lib.hid ((row_any ((rowL ps).take c) a2 c c2 w2 (HAl.out.cells.take c) (by have := HLn.out; simp; omega) (by simp; omega) (by simp; omega) (HT.out.old HB2.out)).mono (by
          rintro e w3 ⟨kk, v3, hE3, rfl, hfr3, hb3⟩
          have e := rowEnd_eq hE3 HRC.out.2.1
          rw [e] at hfr3 ⊢
          rw [HRC.out.2.2]
          rw [HRC.out.1] at hfr3 ⊢
          exact ⟨v3, rfl, hfr3, hb3⟩))
        have hfl : (frsOf 0 (ps.take mm)).length = mm := by rw [frsOf_length, List.length_take]; have := HPl.out; omega
        have HFl := Lib.hid hfl
        have HFg : Hid (∀ i (h : i < (frsOf 0 (ps.take mm)).length), (frsOf 0 (ps.take mm))[i].kind = ks.getD i 0 ∧ (frsOf 0 (ps.take mm))[i].pay = ls.getD i []) := Lib.hid (fun i h => by
          have hi : i < ps.length := by have := HPl.out; rw [HFl.out] at h; omega
          have hi2 : i < (ps.take mm).length := by rw [frsOf_length] at h; exact h
          obtain ⟨h1, h2⟩ := frsOf_get (ps.take mm) 0 i hi2 h
          have h3 : (ps.take mm)[i] = ps[i] := by simp
          rw [h3, HGet.out i hi] at h1 h2
          exact ⟨h1, h2⟩)
        clear hfl
        have HRq := HRow
        have hmm30 : (mm : Int) ≤ 30 := by omega
        by_cases hce : c = endN ps mm
        · rw [if_pos hce] at HRq
          by_cases hmz : mm = 0
          · have hc0b : ((c : Int) == 0) = true := by subst hmz; simp [endN, rowL_nil] at hce; simp [hce]
            have hm0b : decide ((0 : Int) < (mm : Int)) = false := decide_eq_false (by omega)
            have hm0c : decide (0 < mm) = false := decide_eq_false (by omega)
            have hm0d : ¬ (0 : Int) < (mm : Int) := by omega
            clear hce hmz
            generalize endN ps mm = ee at *
            generalize frsOf 0 (ps.take mm) = fs at *
            go_wp2_with (go_at_call 18; refine HRq.out.mono ?_; rintro e w3 ⟨v3, rfl, hfr3, hb3⟩; have HF3 := Lib.hid hfr3; have HB3 := Lib.hid (HB2.out.trans (hb3.mono HB2.out.size)); obtain ⟨a4, c4, rfl⟩ := hfr3.shape; rw [HFl.out]; rw [HFl.out] at HF3; clear hfr3 hb3)
            go_loopw [14] (fun i wr => ∃ j q : Nat, j ≤ mm ∧ i = .int .i64 j ∧ wr = w3.drewN q) (fun i _ => (mm - intOf i).toNat)
            case atStart => exact ⟨0, 0, by omega, rfl, rfl⟩
            case round =>
              obtain ⟨j, q, hj, rfl, rfl⟩ := hrel
              by_cases hlt : j < mm
              · obtain ⟨gf, cf, hv, hcells⟩ := HF3.out.addr (by rw [HFl.out]; omega)
                rw [HFl.out] at hv
                obtain ⟨rfl, rfl⟩ : a4 = some ⟨gf, 0, none⟩ ∧ c4 = cf := by simpa using hv
                have hjf : j < fs.length := by rw [HFl.out]; exact hlt
                obtain ⟨pa, pc, hpay, f0, f1, f2, f3⟩ := hcells j hjf
                obtain ⟨hkd, hpy⟩ := HFg.out j hjf
                rw [hkd] at f2
                rw [hpy] at f3 hpay
                have hjl : j < ls.length := by omega
                obtain ⟨ab, ob, pb, pcb, rfl, g1, g2⟩ := (HC.out.old HB3.out).get hjl
                obtain ⟨bb, kb, rfl, _⟩ := HK.out.addr (by omega)
                have k1 := (HK.out.old HB3.out).at j (by omega)
                have hkd2 := HK.out.1.getD j
                have hmd : Mod [] w3 (w3.drewN q).drew := ⟨rfl, rfl, rfl, Nat.le_refl _, fun _ _ _ => rfl⟩
                have Fa := run_str (P := Tryd.prog) (hpay.1.mod hmd (by simp)) 22 9 5 (ls.getD j []).length pc Tryd.underlying22 Tryd.underlying5 Tryd.underlying9 rfl
                have Fb := run_str (P := Tryd.prog) (g2.mod hmd (by simp)) 22 9 5 (ls.getD j []).length pcb Tryd.underlying22 Tryd.underlying5 Tryd.underlying9 rfl
                clear hv hcells hkd hpy hpay g2 hmd f0 f1
                generalize strOfNums (ls.getD j []) = st at *
                generalize (ls.getD j []).length = pl at *
                generalize ks.getD j 0 = kd at *
                have e1 : j * 4 = 4 * j := by omega
                have hkI : (j : Int) < (mm : Int) := by omega
                have hkI2 : (j : Int) < (ls.length : Int) := by omega
                have hkI3 : (j : Int) < (ks.length : Int) := by omega
                have hk0I : (0 : Int) ≤ (j : Int) := by omega
                have hkw : IntKind.i64.wrap kd = kd := IntWalk.i64_in _ (by omega)
                have hst : (st.toList == st.toList) = true := by simp
                go_wp2_with fail
                go_region_held3 (fun W => W.cell? ⟨gf, 4 * j + 2, none⟩ = some (.int .i64 kd) ∧ W.cell? ⟨gf, 4 * j + 3, none⟩ = some (.slice pa pl pc) ∧ W.cell? ⟨bb, kb + j, none⟩ = some (.int .u8 kd) ∧ W.cell? ⟨ab, ob + j, none⟩ = some (.slice pb pl pcb) ∧ (convert 22 9 (.slice pa pl pc)).run Tryd.prog W = .ok (.string st) W ∧ (convert 22 9 (.slice pb pl pcb)).run Tryd.prog W = .ok (.string st) W)
                  (exact ⟨f2, f3, k1, g1, Fa, Fb⟩) (fail)
                go_wp2_with fail
                go_roundw
                case rel => exact ⟨j + 1, q + 1, by omega, by go_num, rfl⟩
                case measure => simp [intOf]; omega
              · go_wp2_with fail
                go_ret
                exact ⟨rfl, HB3.out.trans ((mod_drewN w3 q).toBelow HB3.out.size (by simp))⟩
          · skip
            have hm0b : decide ((0 : Int) < (mm : Int)) = true := decide_eq_true (by omega)
            have hm0c : decide (0 < mm) = true := decide_eq_true (by omega)
            have hm0d : (0 : Int) < (mm : Int) := by omega
            obtain ⟨mp, hmp⟩ : ∃ mp : Nat, mm = mp + 1 := ⟨mm - 1, by omega⟩
            obtain ⟨ge, rfl, hcell⟩ := ends_cell HEn.out (i := mp) (by omega)
            rw [← hmp] at hcell
            have hwp : IntKind.i64.wrap ((mm : Int) - 1) = (mm : Int) - 1 := IntWalk.i64_in _ (by omega)
            have hpn : ((mm : Int) - 1).toNat = mp := by omega
            have hp0 : (1 : Int) ≤ (mm : Int) := by omega
            have hp1 : (mm : Int) - 1 < (ls.length : Int) := by omega
            have hep : 0 < endN ps mm := by have h := endN_mono ps 0 mm (by have := HPl.out; omega); rw [Nat.zero_add] at h; omega
            have hc0b : ((c : Int) == 0) = false := by simp; omega
            rw [← hce] at hcell
            clear hce hmz hep hmp
            generalize endN ps mm = ee at *
            generalize frsOf 0 (ps.take mm) = fs at *
            go_wp2_with (go_at_call 18; refine HRq.out.mono ?_; rintro e w3 ⟨v3, rfl, hfr3, hb3⟩; have HF3 := Lib.hid hfr3; have HB3 := Lib.hid (HB2.out.trans (hb3.mono HB2.out.size)); obtain ⟨a4, c4, rfl⟩ := hfr3.shape; rw [HFl.out]; rw [HFl.out] at HF3; obtain hcellx := hb3.cell (p := ⟨ge, mp, none⟩) (World.block_lt_of_cell? w2 _ hcell); rw [hcell] at hcellx; clear hfr3 hb3)
            go_loopw [14] (fun i wr => ∃ j q : Nat, j ≤ mm ∧ i = .int .i64 j ∧ wr = w3.drewN q) (fun i _ => (mm - intOf i).toNat)
            case atStart => exact ⟨0, 0, by omega, rfl, rfl⟩
            case round =>
              obtain ⟨j, q, hj, rfl, rfl⟩ := hrel
              by_cases hlt : j < mm
              · obtain ⟨gf, cf, hv, hcells⟩ := HF3.out.addr (by rw [HFl.out]; omega)
                rw [HFl.out] at hv
                obtain ⟨rfl, rfl⟩ : a4 = some ⟨gf, 0, none⟩ ∧ c4 = cf := by simpa using hv
                have hjf : j < fs.length := by rw [HFl.out]; exact hlt
                obtain ⟨pa, pc, hpay, f0, f1, f2, f3⟩ := hcells j hjf
                obtain ⟨hkd, hpy⟩ := HFg.out j hjf
                rw [hkd] at f2
                rw [hpy] at f3 hpay
                have hjl : j < ls.length := by omega
                obtain ⟨ab, ob, pb, pcb, rfl, g1, g2⟩ := (HC.out.old HB3.out).get hjl
                obtain ⟨bb, kb, rfl, _⟩ := HK.out.addr (by omega)
                have k1 := (HK.out.old HB3.out).at j (by omega)
                have hkd2 := HK.out.1.getD j
                have hmd : Mod [] w3 (w3.drewN q).drew := ⟨rfl, rfl, rfl, Nat.le_refl _, fun _ _ _ => rfl⟩
                have Fa := run_str (P := Tryd.prog) (hpay.1.mod hmd (by simp)) 22 9 5 (ls.getD j []).length pc Tryd.underlying22 Tryd.underlying5 Tryd.underlying9 rfl
                have Fb := run_str (P := Tryd.prog) (g2.mod hmd (by simp)) 22 9 5 (ls.getD j []).length pcb Tryd.underlying22 Tryd.underlying5 Tryd.underlying9 rfl
                clear hv hcells hkd hpy hpay g2 hmd f0 f1
                generalize strOfNums (ls.getD j []) = st at *
                generalize (ls.getD j []).length = pl at *
                generalize ks.getD j 0 = kd at *
                have e1 : j * 4 = 4 * j := by omega
                have hkI : (j : Int) < (mm : Int) := by omega
                have hkI2 : (j : Int) < (ls.length : Int) := by omega
                have hkI3 : (j : Int) < (ks.length : Int) := by omega
                have hk0I : (0 : Int) ≤ (j : Int) := by omega
                have hkw : IntKind.i64.wrap kd = kd := IntWalk.i64_in _ (by omega)
                have hst : (st.toList == st.toList) = true := by simp
                go_wp2_with fail
                go_region_held3 (fun W => W.cell? ⟨gf, 4 * j + 2, none⟩ = some (.int .i64 kd) ∧ W.cell? ⟨gf, 4 * j + 3, none⟩ = some (.slice pa pl pc) ∧ W.cell? ⟨bb, kb + j, none⟩ = some (.int .u8 kd) ∧ W.cell? ⟨ab, ob + j, none⟩ = some (.slice pb pl pcb) ∧ (convert 22 9 (.slice pa pl pc)).run Tryd.prog W = .ok (.string st) W ∧ (convert 22 9 (.slice pb pl pcb)).run Tryd.prog W = .ok (.string st) W)
                  (exact ⟨f2, f3, k1, g1, Fa, Fb⟩) (fail)
                go_wp2_with fail
                go_roundw
                case rel => exact ⟨j + 1, q + 1, by omega, by go_num, rfl⟩
                case measure => simp [intOf]; omega
              · go_wp2_with fail
                go_ret
                exact ⟨rfl, HB3.out.trans ((mod_drewN w3 q).toBelow HB3.out.size (by simp))⟩
        · rw [if_neg hce] at HRq
          by_cases hmz : mm = 0
          · have hc0b : ((c : Int) == 0) = false := by subst hmz; simp [endN, rowL_nil] at hce; simp [hce]
            have hm0b : decide ((0 : Int) < (mm : Int)) = false := decide_eq_false (by omega)
            have hm0c : decide (0 < mm) = false := decide_eq_false (by omega)
            have hm0d : ¬ (0 : Int) < (mm : Int) := by omega
            clear hce hmz
            generalize endN ps mm = ee at *
            generalize frsOf 0 (ps.take mm) = fs at *
            go_wp2_with (go_at_call 18; refine HRq.out.mono ?_; rintro e w3 ⟨v3, rfl, hfr3, hb3⟩; have HF3 := Lib.hid hfr3; have HB3 := Lib.hid (HB2.out.trans (hb3.mono HB2.out.size)); obtain ⟨a4, c4, rfl⟩ := hfr3.shape; rw [HFl.out]; rw [HFl.out] at HF3; clear hfr3 hb3)
            go_loopw [14] (fun i wr => ∃ j q : Nat, j ≤ mm ∧ i = .int .i64 j ∧ wr = w3.drewN q) (fun i _ => (mm - intOf i).toNat)
            case atStart => exact ⟨0, 0, by omega, rfl, rfl⟩
            case round =>
              obtain ⟨j, q, hj, rfl, rfl⟩ := hrel
              by_cases hlt : j < mm
              · obtain ⟨gf, cf, hv, hcells⟩ := HF3.out.addr (by rw [HFl.out]; omega)
                rw [HFl.out] at hv
                obtain ⟨rfl, rfl⟩ : a4 = some ⟨gf, 0, none⟩ ∧ c4 = cf := by simpa using hv
                have hjf : j < fs.length := by rw [HFl.out]; exact hlt
                obtain ⟨pa, pc, hpay, f0, f1, f2, f3⟩ := hcells j hjf
                obtain ⟨hkd, hpy⟩ := HFg.out j hjf
                rw [hkd] at f2
                rw [hpy] at f3 hpay
                have hjl : j < ls.length := by omega
                obtain ⟨ab, ob, pb, pcb, rfl, g1, g2⟩ := (HC.out.old HB3.out).get hjl
                obtain ⟨bb, kb, rfl, _⟩ := HK.out.addr (by omega)
                have k1 := (HK.out.old HB3.out).at j (by omega)
                have hkd2 := HK.out.1.getD j
                have hmd : Mod [] w3 (w3.drewN q).drew := ⟨rfl, rfl, rfl, Nat.le_refl _, fun _ _ _ => rfl⟩
                have Fa := run_str (P := Tryd.prog) (hpay.1.mod hmd (by simp)) 22 9 5 (ls.getD j []).length pc Tryd.underlying22 Tryd.underlying5 Tryd.underlying9 rfl
                have Fb := run_str (P := Tryd.prog) (g2.mod hmd (by simp)) 22 9 5 (ls.getD j []).length pcb Tryd.underlying22 Tryd.underlying5 Tryd.underlying9 rfl
                clear hv hcells hkd hpy hpay g2 hmd f0 f1
                generalize strOfNums (ls.getD j []) = st at *
                generalize (ls.getD j []).length = pl at *
                generalize ks.getD j 0 = kd at *
                have e1 : j * 4 = 4 * j := by omega
                have hkI : (j : Int) < (mm : Int) := by omega
                have hkI2 : (j : Int) < (ls.length : Int) := by omega
                have hkI3 : (j : Int) < (ks.length : Int) := by omega
                have hk0I : (0 : Int) ≤ (j : Int) := by omega
                have hkw : IntKind.i64.wrap kd = kd := IntWalk.i64_in _ (by omega)
                have hst : (st.toList == st.toList) = true := by simp
                go_wp2_with fail
                go_region_held3 (fun W => W.cell? ⟨gf, 4 * j + 2, none⟩ = some (.int .i64 kd) ∧ W.cell? ⟨gf, 4 * j + 3, none⟩ = some (.slice pa pl pc) ∧ W.cell? ⟨bb, kb + j, none⟩ = some (.int .u8 kd) ∧ W.cell? ⟨ab, ob + j, none⟩ = some (.slice pb pl pcb) ∧ (convert 22 9 (.slice pa pl pc)).run Tryd.prog W = .ok (.string st) W ∧ (convert 22 9 (.slice pb pl pcb)).run Tryd.prog W = .ok (.string st) W)
                  (exact ⟨f2, f3, k1, g1, Fa, Fb⟩) (fail)
                go_wp2_with fail
                go_roundw
                case rel => exact ⟨j + 1, q + 1, by omega, by go_num, rfl⟩
                case measure => simp [intOf]; omega
              · go_wp2_with fail
                go_ret
                exact ⟨rfl, HB3.out.trans ((mod_drewN w3 q).toBelow HB3.out.size (by simp))⟩
          · skip
            have hm0b : decide ((0 : Int) < (mm : Int)) = true := decide_eq_true (by omega)
            have hm0c : decide (0 < mm) = true := decide_eq_true (by omega)
            have hm0d : (0 : Int) < (mm : Int) := by omega
            obtain ⟨mp, hmp⟩ : ∃ mp : Nat, mm = mp + 1 := ⟨mm - 1, by omega⟩
            obtain ⟨ge, rfl, hcell⟩ := ends_cell HEn.out (i := mp) (by omega)
            rw [← hmp] at hcell
            have hwp : IntKind.i64.wrap ((mm : Int) - 1) = (mm : Int) - 1 := IntWalk.i64_in _ (by omega)
            have hpn : ((mm : Int) - 1).toNat = mp := by omega
            have hp0 : (1 : Int) ≤ (mm : Int) := by omega
            have hp1 : (mm : Int) - 1 < (ls.length : Int) := by omega
            have hep : 0 < endN ps mm := by have h := endN_mono ps 0 mm (by have := HPl.out; omega); rw [Nat.zero_add] at h; omega
            have hec : endN ps mm ≤ c := HM2.out
            have hc0b : ((c : Int) == 0) = false := by simp; omega
            have hcee : ((endN ps mm : Int) == (c : Int)) = false := by simp; omega
            clear hce hmz hep hmp hec
            generalize endN ps mm = ee at *
            generalize frsOf 0 (ps.take mm) = fs at *
            go_wp2_with (go_at_call 18; refine HRq.out.mono ?_; rintro e w3 ⟨v3, rfl, hfr3, hb3⟩; have HF3 := Lib.hid hfr3; have HB3 := Lib.hid (HB2.out.trans (hb3.mono HB2.out.size)); obtain ⟨a4, c4, rfl⟩ := hfr3.shape; rw [HFl.out]; rw [HFl.out] at HF3; obtain hcellx := hb3.cell (p := ⟨ge, mp, none⟩) (World.block_lt_of_cell? w2 _ hcell); rw [hcell] at hcellx; clear hfr3 hb3)
            go_loopw [14] (fun i wr => ∃ j q : Nat, j ≤ mm ∧ i = .int .i64 j ∧ wr = w3.drewN q) (fun i _ => (mm - intOf i).toNat)
            case atStart => exact ⟨0, 0, by omega, rfl, rfl⟩
            case round =>
              obtain ⟨j, q, hj, rfl, rfl⟩ := hrel
              by_cases hlt : j < mm
              · obtain ⟨gf, cf, hv, hcells⟩ := HF3.out.addr (by rw [HFl.out]; omega)
                rw [HFl.out] at hv
                obtain ⟨rfl, rfl⟩ : a4 = some ⟨gf, 0, none⟩ ∧ c4 = cf := by simpa using hv
                have hjf : j < fs.length := by rw [HFl.out]; exact hlt
                obtain ⟨pa, pc, hpay, f0, f1, f2, f3⟩ := hcells j hjf
                obtain ⟨hkd, hpy⟩ := HFg.out j hjf
                rw [hkd] at f2
                rw [hpy] at f3 hpay
                have hjl : j < ls.length := by omega
                obtain ⟨ab, ob, pb, pcb, rfl, g1, g2⟩ := (HC.out.old HB3.out).get hjl
                obtain ⟨bb, kb, rfl, _⟩ := HK.out.addr (by omega)
                have k1 := (HK.out.old HB3.out).at j (by omega)
                have hkd2 := HK.out.1.getD j
                have hmd : Mod [] w3 (w3.drewN q).drew := ⟨rfl, rfl, rfl, Nat.le_refl _, fun _ _ _ => rfl⟩
                have Fa := run_str (P := Tryd.prog) (hpay.1.mod hmd (by simp)) 22 9 5 (ls.getD j []).length pc Tryd.underlying22 Tryd.underlying5 Tryd.underlying9 rfl
                have Fb := run_str (P := Tryd.prog) (g2.mod hmd (by simp)) 22 9 5 (ls.getD j []).length pcb Tryd.underlying22 Tryd.underlying5 Tryd.underlying9 rfl
                clear hv hcells hkd hpy hpay g2 hmd f0 f1
                generalize strOfNums (ls.getD j []) = st at *
                generalize (ls.getD j []).length = pl at *
                generalize ks.getD j 0 = kd at *
                have e1 : j * 4 = 4 * j := by omega
                have hkI : (j : Int) < (mm : Int) := by omega
                have hkI2 : (j : Int) < (ls.length : Int) := by omega
                have hkI3 : (j : Int) < (ks.length : Int) := by omega
                have hk0I : (0 : Int) ≤ (j : Int) := by omega
                have hkw : IntKind.i64.wrap kd = kd := IntWalk.i64_in _ (by omega)
                have hst : (st.toList == st.toList) = true := by simp
                go_wp2_with fail
                go_region_held3 (fun W => W.cell? ⟨gf, 4 * j + 2, none⟩ = some (.int .i64 kd) ∧ W.cell? ⟨gf, 4 * j + 3, none⟩ = some (.slice pa pl pc) ∧ W.cell? ⟨bb, kb + j, none⟩ = some (.int .u8 kd) ∧ W.cell? ⟨ab, ob + j, none⟩ = some (.slice pb pl pcb) ∧ (convert 22 9 (.slice pa pl pc)).run Tryd.prog W = .ok (.string st) W ∧ (convert 22 9 (.slice pb pl pcb)).run Tryd.prog W = .ok (.string st) W)
                  (exact ⟨f2, f3, k1, g1, Fa, Fb⟩) (fail)
                go_wp2_with fail
                go_roundw
                case rel => exact ⟨j + 1, q + 1, by omega, by go_num, rfl⟩
                case measure => simp [intOf]; omega
              · go_wp2_with fail
                go_ret
                exact ⟨rfl, HB3.out.trans ((mod_drewN w3 q).toBelow HB3.out.size (by simp))⟩
end Go.Proofs.YtcciiameelabiaaDoor
