/- CmdLetters: great or small letters of the verb, of FROM and TO, change nothing. -/
import Derived.Test.YtebncajpamaodaaGreatDoorCmK
import Derived.Test.YtebncajpamaodaaGreatDoorCmZ
import Derived.Test.YtebncajpamaodaaGreatDoorCmS
import Derived.Deep.Grids
namespace Go.Proofs.YtebncajpamaodaaGreatDoor
open Go.Maps Go.Shelf Go.ChangeShapes Go.WideShapes Go.ChangeAt Go.RowKit
set_option linter.unusedVariables false
set_option linter.unusedSimpArgs false

/-- a slice of bools that came in -/
def BB (w : World) (a : Option Addr) (l : List Bool) : Prop := l = [] ∨ ∃ b o, a = some ⟨b, o, none⟩ ∧ b < w.heap.size ∧ ∀ i, i < l.length → w.cell? ⟨b, o + i, none⟩ = some (.bool (l.getD i false))
section
variable {H : Type} {enc : TypeId × Value → H}
theorem open_bb {W : World} {a : Option Addr} {len cap fuel : Nat} {x : DataW H × List MemPlace} (hf : DataW.trod enc Tryz.prog W 0 (fun _ => true) true fuel 38 [.slice a len cap] = some x) :
    ∃ l, BB W a l ∧ len = l.length ∧ l.length ≤ 9223372036854775807 := by
  rcases Go.Deep.open_bools Tryz.underlying38 Tryz.underlying4 (by kernel_rfl) hf with ⟨hcs, _⟩ | ⟨a', len', cap', B, hcs, _, hl, hm, _, hi⟩
  · simp at hcs
    obtain ⟨rfl, rfl, rfl⟩ := hcs
    exact ⟨[], .inl rfl, rfl, by simp⟩
  · simp at hcs
    obtain ⟨rfl, rfl, rfl⟩ := hcs
    have hmx : maxLen = 9223372036854775807 := rfl
    refine ⟨(List.range len).map B, ?_, by simp, by simp; omega⟩
    by_cases h0 : len = 0
    · left; subst h0; rfl
    · right
      obtain ⟨b, o, spot⟩ := a'
      have hc := hi 0 (by omega)
      have hspot : spot = none := by simpa [Addr.add] using World.cell?_spot hc
      subst hspot
      refine ⟨b, o, rfl, World.block_lt_of_cell? W _ hc, fun i hil => ?_⟩
      simp only [List.length_map, List.length_range] at hil
      have := hi i (by omega)
      rw [Addr.add_lit] at this
      rw [this]
      simp [List.getD, hil]
end

/-- t with the first k places gone through -/
def TurnedTo (t b : List Int) (k : Nat) : Prop := Turned t b ∧ (∀ i, k ≤ i → b.getD i 0 = t.getD i 0) ∧ ∀ j, j < k → t.getD j 0 ≠ 58
theorem TurnedTo.start (t : List Int) : TurnedTo t t 0 := ⟨⟨rfl, fun i => Or.inl rfl⟩, fun _ _ => rfl, fun j hj => by omega⟩
theorem TurnedTo.same {t b : List Int} {k : Nat} (h : TurnedTo t b k) (hc : t.getD k 0 ≠ 58) : TurnedTo t b (k + 1) :=
  ⟨h.1, fun i hi => h.2.1 i (by omega), fun j hj => by
    by_cases e : j = k
    · subst e; exact hc
    · exact h.2.2 j (by omega)⟩
theorem TurnedTo.turn {t b : List Int} {k : Nat} (h : TurnedTo t b k) (hk : k < t.length) (h10 : k < 10) (hc : t.getD k 0 ≠ 58) (hlet : letB (t.getD k 0) = true) (hv : Verbal t k) : TurnedTo t (b.set k (flipC (t.getD k 0))) (k + 1) := by
  obtain ⟨⟨h1, h2⟩, h3, h4⟩ := h
  have hkb : k < b.length := by omega
  refine ⟨⟨by simpa using h1, fun i => ?_⟩, fun i hi => ?_, fun j hj => ?_⟩
  · by_cases e : i = k
    · subst e
      right
      refine ⟨h10, hlet, by simp [List.getD, hkb], fun j hj => ?_, hv⟩
      by_cases e : j = i
      · subst e; exact hc
      · exact h4 j (by omega)
    · have hg : (b.set k (flipC (t.getD k 0))).getD i 0 = b.getD i 0 := by simp [List.getD, List.getElem?_set, Ne.symm e]
      rw [hg]
      exact h2 i
  · have hg : (b.set k (flipC (t.getD k 0))).getD i 0 = b.getD i 0 := by simp [List.getD, List.getElem?_set, show ¬ k = i by omega]
    rw [hg]; exact h3 i (by omega)
  · by_cases e : j = k
    · subst e; exact hc
    · exact h4 j (by omega)
theorem TurnedTo.bytes {t b : List Int} {k : Nat} (h : TurnedTo t b k) (ht : Bytes t) : Bytes b := by
  intro x hx
  obtain ⟨i, hi, rfl⟩ := List.getElem_of_mem hx
  have e : b[i] = b.getD i 0 := by simp [List.getD, hi]
  rw [e]
  have hb := ht.getD i
  rcases h.1.2 i with e | ⟨_, hl, e, _⟩
  · rw [e]; exact hb
  · rw [e]; rw [letB_iff] at hl; unfold flipC; split <;> omega
theorem xor32 : ∀ c : Nat, c < 128 → letB (c : Int) = true → bits .xor .u8 (c : Int) 32 = flipC (c : Int) := by decide +kernel
theorem xor_flip {c : Int} (h0 : 0 ≤ c) (h : letB c = true) : bits .xor .u8 c 32 = flipC c := by
  obtain ⟨n, rfl⟩ : ∃ n : Nat, c = n := ⟨c.toNat, by omega⟩
  exact xor32 n (by rw [letB_iff] at h; omega) h

/-- a round of the law's loop -/
def LetR (line : ByteArray) (g cap : Nat) (w : World) (k : Nat) (wr : World) : Prop := ∃ bl, RowF wr g cap bl ∧ TurnedTo (nums line) bl k ∧ Mod [g] w wr

set_option maxRecDepth 100000 in
set_option maxHeartbeats 8000000 in
theorem letters_any (line : ByteArray) (a : Option Addr) (cap0 len : Nat) (l : List Bool) (w : World) (hE : Env w) (hbb : BB w a l) (hlen : len = l.length) (ws : line.size ≤ 9223372036854775807) (wl : len ≤ 9223372036854775807) :
    Calls Tryz.prog 5 #[.string line, .slice a len cap0] w fun e w' => e = .returned (.bool true) ∧ Below w.heap.size w w' := by
  have HE := Lib.hid hE
  have HBB := Lib.hid hbb
  have HLe := Lib.hid hlen
  have HL := Lib.hid (nums_length line)
  clear hE hbb hlen
  go_enter Tryz.func5, Tryz.ntmps5
  go_wp2_with fail
  refine (cawake_any w HE.out).mono ?_
  rintro e w1 ⟨rfl, hb1⟩
  have HM1 := Lib.hid (Mod.ofBelow hb1)
  clear hb1
  by_cases h7 : 700 < line.size
  · have h7' : (700 : Int) < (line.size : Int) := by omega
    go_wp2_with fail
    go_ret
    exact ⟨rfl, HM1.out.toBelow (Nat.le_refl _) (by simp)⟩
  have h7' : (line.size : Int) ≤ 700 := by omega
  by_cases h10 : 10 < len
  · have h10' : (10 : Int) < (len : Int) := by omega
    go_wp2_with fail
    go_ret
    exact ⟨rfl, HM1.out.toBelow (Nat.le_refl _) (by simp)⟩
  have h10' : (len : Int) ≤ 10 := by omega
  have hlen0 : (0 : Int) ≤ (len : Int) := by omega
  obtain ⟨cap, w2, hcv, hrow, hm2, hz2, hcap⟩ := conv_row w1 line
  have HRow := Lib.hid hrow
  have HM2 := Lib.hid (HM1.out.trans hm2)
  have hg1 : w.heap.size ≤ w1.heap.size := HM1.out.size
  have hs : line.size ≤ 100000 := by omega
  clear hrow hm2 hz2
  go_wp2_with fail
  clear hcv
  generalize w1.heap.size = g at *
  have HG := Lib.hid hg1
  clear hg1
  go_loopw [6, 7] (fun i _ wr => ∃ k : Nat, i = .int .i64 k ∧ k ≤ line.size ∧ LetR line g cap w k wr) (fun i _ _ => (line.size - intOf i).toNat)
  case atStart => exact ⟨0, rfl, Nat.zero_le _, nums line, HRow.out, .start _, HM2.out.mono (by simp)⟩
  case round =>
    obtain ⟨k, rfl, hk, bl, hr, ht, hm⟩ := hrel
    have HR := Lib.hid hr
    have HT := Lib.hid ht
    have HM := Lib.hid hm
    have hbl : bl.length = line.size := by rw [ht.1.1, HL.out]
    clear hr ht hm HRow HM2
    have hkI : (k : Int) ≤ (line.size : Int) := by omega
    by_cases hgo : (k < len ∧ k < line.size) ∧ (nums line).getD k 0 ≠ 58
    · obtain ⟨⟨hk1, hk2⟩, h58⟩ := hgo
      have hk1' : (k : Int) < (len : Int) := by omega
      have hk2' : (k : Int) < (line.size : Int) := by omega
      have hcell := HR.out.cell k (by omega)
      have hfree := HR.out.free k (by omega)
      rw [HT.out.2.1 k (Nat.le_refl _)] at hcell
      obtain ⟨b, o, ha, hbw, hbc⟩ : ∃ b o, a = some ⟨b, o, none⟩ ∧ b < w.heap.size ∧ ∀ i, i < l.length → w.cell? ⟨b, o + i, none⟩ = some (.bool (l.getD i false)) := by
        rcases HBB.out with h | h
        · have := HLe.out; rw [h] at this; simp at this; omega
        · exact h
      have htc : wr.cell? ⟨b, o + k, none⟩ = some (.bool (l.getD k false)) := HM.out.cell (hbc k (by have := HLe.out; omega)) (by have := HG.out; simp; omega)
      have hbd := (nums_bytes line).getD k
      have HSame := Lib.hid (HT.out.same h58)
      have HTurn := Lib.hid (fun hl hv => HT.out.turn (k := k) (by rw [HL.out]; exact hk2) (by omega) h58 hl hv)
      have HVb := Lib.hid (verbal_any line k wr (HE.out.mod HM.out (by have := HG.out; have := HE.out.lt; intro x hx; simp at hx; omega)) hs (by omega))
      subst ha
      generalize (nums line).getD k 0 = c at *
      generalize l.getD k false = tv at *
      have h58' : (c != 58) = true := by simp [h58]
      clear h58 hbc
      cases tv
      · go_wp2_with fail
        go_roundw
        case rel => exact ⟨k + 1, by go_num, by omega, bl, HR.out, HSame.out, HM.out⟩
        case measure => simp [intOf]; omega
      · by_cases hlet : letB c = true
        · have hfl := xor_flip hbd.1 hlet
          rw [letB_iff] at hlet
          have HLt := Lib.hid (letB_iff.2 hlet)
          rcases hlet with ⟨hl1, hl2⟩ | ⟨hl1, hl2⟩
          · go_wp2_with fail
            refine HVb.out.mono ?_
            rintro e w5 ⟨q, rfl, hq, hb5⟩
            have HR5 := Lib.hid (HR.out.mod (Mod.ofBelow hb5) (by simp))
            have HM5 := Lib.hid (HM.out.trans ((Mod.ofBelow hb5).mono (by simp)))
            clear hb5 hcell hfree htc
            cases q
            · go_wp2_with fail
              go_roundw
              case rel => exact ⟨k + 1, by go_num, by omega, bl, HR5.out, HSame.out, HM5.out⟩
              case measure => simp [intOf]; omega
            · have HTq := Lib.hid (HTurn.out HLt.out (hq rfl))
              have hcell := HR5.out.cell k (by omega)
              have hfree := HR5.out.free k (by omega)
              clear hq HTurn HSame
              go_wp2_with fail
              go_roundw
              case rel => exact ⟨k + 1, by go_num, by omega, bl.set k (flipC c), HR5.out.set k _, HTq.out, HM5.out.setCell (p := ⟨g, k, none⟩) (Or.inl (by simp)) _⟩
              case measure => simp [intOf]; omega
          · go_wp2_with fail
            refine HVb.out.mono ?_
            rintro e w5 ⟨q, rfl, hq, hb5⟩
            have HR5 := Lib.hid (HR.out.mod (Mod.ofBelow hb5) (by simp))
            have HM5 := Lib.hid (HM.out.trans ((Mod.ofBelow hb5).mono (by simp)))
            clear hb5 hcell hfree htc
            cases q
            · go_wp2_with fail
              go_roundw
              case rel => exact ⟨k + 1, by go_num, by omega, bl, HR5.out, HSame.out, HM5.out⟩
              case measure => simp [intOf]; omega
            · have HTq := Lib.hid (HTurn.out HLt.out (hq rfl))
              have hcell := HR5.out.cell k (by omega)
              have hfree := HR5.out.free k (by omega)
              clear hq HTurn HSame
              go_wp2_with fail
              go_roundw
              case rel => exact ⟨k + 1, by go_num, by omega, bl.set k (flipC c), HR5.out.set k _, HTq.out, HM5.out.setCell (p := ⟨g, k, none⟩) (Or.inl (by simp)) _⟩
              case measure => simp [intOf]; omega
        · have hno : ¬ ((97 ≤ c ∧ c ≤ 122) ∨ (65 ≤ c ∧ c ≤ 90)) := fun h => hlet (letB_iff.2 h)
          clear hlet
          by_cases hc1 : c < 65
          · have hc2 : c < 97 := by omega
            go_wp2_with fail
            go_roundw
            case rel => exact ⟨k + 1, by go_num, by omega, bl, HR.out, HSame.out, HM.out⟩
            case measure => simp [intOf]; omega
          have hc1' : 65 ≤ c := by omega
          by_cases hc2 : c < 97
          · have hc3 : 90 < c := by omega
            go_wp2_with fail
            go_roundw
            case rel => exact ⟨k + 1, by go_num, by omega, bl, HR.out, HSame.out, HM.out⟩
            case measure => simp [intOf]; omega
          have hc2' : 97 ≤ c := by omega
          have hc3 : 122 < c := by omega
          have hc4 : 90 < c := by omega
          go_wp2_with fail
          go_roundw
          case rel => exact ⟨k + 1, by go_num, by omega, bl, HR.out, HSame.out, HM.out⟩
          case measure => simp [intOf]; omega
    · by_cases hk1 : k < len
      · have hk1' : (k : Int) < (len : Int) := by omega
        by_cases hk2 : k < line.size
        · have hk2' : (k : Int) < (line.size : Int) := by omega
          have h58 : (nums line).getD k 0 = 58 := by
            by_cases h : (nums line).getD k 0 = 58
            · exact h
            · exact absurd ⟨⟨hk1, hk2⟩, h⟩ hgo
          have hcell := HR.out.cell k (by omega)
          rw [HT.out.2.1 k (Nat.le_refl _), h58] at hcell
          have HTm := Lib.hid (turned_parse HT.out.1)
          have HBb := Lib.hid (HT.out.bytes (nums_bytes line))
          have hbs : (strOfNums bl).size ≤ 100000 := by rw [strOfNums_size]; omega
          have HPa := Lib.hid (fun W (h : Env W) => parsec_any line W h hs)
          have HPb := Lib.hid (fun W (h : Env W) => parsec_any (strOfNums bl) W h hbs)
          unfold ParseC at HPa HPb
          rw [nums_strOfNums HBb.out, HTm.out] at HPb
          have HCd : Hid (∃ C, cmD (parseC (nums line)).1 = C ∧ ∃ v sa slo sdm nn sz bd, C = #[.int .i64 v, .string sa, .string slo, .string sdm, .bool nn, .int .i64 sz, .int .i64 bd]) := Lib.hid ⟨_, rfl, _, _, _, _, _, _, _, rfl⟩
          obtain ⟨C, hC, v, sa, slo, sdm, nn, sz, bd, hCe⟩ := HCd.out
          rw [hC] at HPa HPb
          subst hCe
          generalize (parseC (nums line)).2 = code at *
          have HE0 := Lib.hid (show 7 ≤ g by have := HG.out; have := HE.out.lt; omega)
          clear hC HCd hbs HTm
          go_wp2_with fail
          refine (HPa.out _ (HE.out.mod HM.out (by have := HE0.out; intro x hx; simp at hx; omega))).mono ?_
          rintro e w5 ⟨rfl, hb5⟩
          have hn5 := heap_alloc_new w5 (.cells #[.int .i64 v, .string sa, .string slo, .string sdm, .bool nn, .int .i64 sz, .int .i64 bd] 26)
          have hm5 : Mod [] w5 (w5.alloc (.cells #[.int .i64 v, .string sa, .string slo, .string sdm, .bool nn, .int .i64 sz, .int .i64 bd] 26)) := (Mod.refl [] w5).alloc _
          have HN5 := Lib.hid hn5
          have HM5 := Lib.hid ((HM.out.trans ((Mod.ofBelow hb5).mono (by simp))).trans (hm5.mono (by simp)))
          have HR5 := Lib.hid ((HR.out.mod (Mod.ofBelow hb5) (by simp)).mod hm5 (by simp))
          clear hb5 hn5 hm5
          go_upto_region 13 with (fail)
          generalize w5.alloc (.cells #[.int .i64 v, .string sa, .string slo, .string sdm, .bool nn, .int .i64 sz, .int .i64 bd] 26) = u5 at *
          generalize w5.heap.size = g5 at *
          have F := run_str (P := Tryz.prog) (HR5.out.cells8 HBb.out) 39 9 5 line.size cap Tryz.underlying39 Tryz.underlying5 Tryz.underlying9 hbl.symm
          go_wp2_with fail
          refine (HPb.out _ (HE.out.mod HM5.out (by have := HE0.out; intro x hx; simp at hx; omega))).mono ?_
          rintro e w6 ⟨rfl, hb6⟩
          have hn6 := heap_alloc_new w6 (.cells #[.int .i64 v, .string sa, .string slo, .string sdm, .bool nn, .int .i64 sz, .int .i64 bd] 26)
          have hm6 : Mod [] w6 (w6.alloc (.cells #[.int .i64 v, .string sa, .string slo, .string sdm, .bool nn, .int .i64 sz, .int .i64 bd] 26)) := (Mod.refl [] w6).alloc _
          have HN6 := Lib.hid hn6
          have HN56 := Lib.hid (hm6.row (below_blk hb6 HN5.out) (by simp))
          have HM6 := Lib.hid ((HM5.out.trans ((Mod.ofBelow hb6).mono (by simp))).trans (hm6.mono (by simp)))
          clear hb6 hn6 hm6 F
          go_upto_region 14 with (fail)
          generalize w6.alloc (.cells #[.int .i64 v, .string sa, .string slo, .string sdm, .bool nn, .int .i64 sz, .int .i64 bd] 26) = u6 at *
          generalize w6.heap.size = g6 at *
          have q1 : (sa.toList == sa.toList) = true := by simp
          have q2 : (slo.toList == slo.toList) = true := by simp
          have q3 : (sdm.toList == sdm.toList) = true := by simp
          have q4 : (v == v) = true := by simp
          have q5 : (sz == sz) = true := by simp
          have q6 : (bd == bd) = true := by simp
          have q7 : (nn == nn) = true := by simp
          have q8 : (code == code) = true := by simp
          go_wp2_with (first | (refine wpList_load_cmd (by rfl) _ (by rfl) g5 #[.int .i64 v, .string sa, .string slo, .string sdm, .bool nn, .int .i64 sz, .int .i64 bd] rfl rfl HN56.out ?_) | (refine wpList_load_cmd (by rfl) _ (by rfl) g6 #[.int .i64 v, .string sa, .string slo, .string sdm, .bool nn, .int .i64 sz, .int .i64 bd] rfl rfl HN6.out ?_))
          go_ret
          exact ⟨rfl, HM6.out.toBelow (Nat.le_refl _) (by have := HG.out; intro x hx; simp at hx; omega)⟩
        · have hk2' : (line.size : Int) ≤ (k : Int) := by omega
          have HTm := Lib.hid (turned_parse HT.out.1)
          have HBb := Lib.hid (HT.out.bytes (nums_bytes line))
          have hbs : (strOfNums bl).size ≤ 100000 := by rw [strOfNums_size]; omega
          have HPa := Lib.hid (fun W (h : Env W) => parsec_any line W h hs)
          have HPb := Lib.hid (fun W (h : Env W) => parsec_any (strOfNums bl) W h hbs)
          unfold ParseC at HPa HPb
          rw [nums_strOfNums HBb.out, HTm.out] at HPb
          have HCd : Hid (∃ C, cmD (parseC (nums line)).1 = C ∧ ∃ v sa slo sdm nn sz bd, C = #[.int .i64 v, .string sa, .string slo, .string sdm, .bool nn, .int .i64 sz, .int .i64 bd]) := Lib.hid ⟨_, rfl, _, _, _, _, _, _, _, rfl⟩
          obtain ⟨C, hC, v, sa, slo, sdm, nn, sz, bd, hCe⟩ := HCd.out
          rw [hC] at HPa HPb
          subst hCe
          generalize (parseC (nums line)).2 = code at *
          have HE0 := Lib.hid (show 7 ≤ g by have := HG.out; have := HE.out.lt; omega)
          clear hC HCd hbs HTm
          go_wp2_with fail
          refine (HPa.out _ (HE.out.mod HM.out (by have := HE0.out; intro x hx; simp at hx; omega))).mono ?_
          rintro e w5 ⟨rfl, hb5⟩
          have hn5 := heap_alloc_new w5 (.cells #[.int .i64 v, .string sa, .string slo, .string sdm, .bool nn, .int .i64 sz, .int .i64 bd] 26)
          have hm5 : Mod [] w5 (w5.alloc (.cells #[.int .i64 v, .string sa, .string slo, .string sdm, .bool nn, .int .i64 sz, .int .i64 bd] 26)) := (Mod.refl [] w5).alloc _
          have HN5 := Lib.hid hn5
          have HM5 := Lib.hid ((HM.out.trans ((Mod.ofBelow hb5).mono (by simp))).trans (hm5.mono (by simp)))
          have HR5 := Lib.hid ((HR.out.mod (Mod.ofBelow hb5) (by simp)).mod hm5 (by simp))
          clear hb5 hn5 hm5
          go_upto_region 13 with (fail)
          generalize w5.alloc (.cells #[.int .i64 v, .string sa, .string slo, .string sdm, .bool nn, .int .i64 sz, .int .i64 bd] 26) = u5 at *
          generalize w5.heap.size = g5 at *
          have F := run_str (P := Tryz.prog) (HR5.out.cells8 HBb.out) 39 9 5 line.size cap Tryz.underlying39 Tryz.underlying5 Tryz.underlying9 hbl.symm
          go_wp2_with fail
          refine (HPb.out _ (HE.out.mod HM5.out (by have := HE0.out; intro x hx; simp at hx; omega))).mono ?_
          rintro e w6 ⟨rfl, hb6⟩
          have hn6 := heap_alloc_new w6 (.cells #[.int .i64 v, .string sa, .string slo, .string sdm, .bool nn, .int .i64 sz, .int .i64 bd] 26)
          have hm6 : Mod [] w6 (w6.alloc (.cells #[.int .i64 v, .string sa, .string slo, .string sdm, .bool nn, .int .i64 sz, .int .i64 bd] 26)) := (Mod.refl [] w6).alloc _
          have HN6 := Lib.hid hn6
          have HN56 := Lib.hid (hm6.row (below_blk hb6 HN5.out) (by simp))
          have HM6 := Lib.hid ((HM5.out.trans ((Mod.ofBelow hb6).mono (by simp))).trans (hm6.mono (by simp)))
          clear hb6 hn6 hm6 F
          go_upto_region 14 with (fail)
          generalize w6.alloc (.cells #[.int .i64 v, .string sa, .string slo, .string sdm, .bool nn, .int .i64 sz, .int .i64 bd] 26) = u6 at *
          generalize w6.heap.size = g6 at *
          have q1 : (sa.toList == sa.toList) = true := by simp
          have q2 : (slo.toList == slo.toList) = true := by simp
          have q3 : (sdm.toList == sdm.toList) = true := by simp
          have q4 : (v == v) = true := by simp
          have q5 : (sz == sz) = true := by simp
          have q6 : (bd == bd) = true := by simp
          have q7 : (nn == nn) = true := by simp
          have q8 : (code == code) = true := by simp
          go_wp2_with (first | (refine wpList_load_cmd (by rfl) _ (by rfl) g5 #[.int .i64 v, .string sa, .string slo, .string sdm, .bool nn, .int .i64 sz, .int .i64 bd] rfl rfl HN56.out ?_) | (refine wpList_load_cmd (by rfl) _ (by rfl) g6 #[.int .i64 v, .string sa, .string slo, .string sdm, .bool nn, .int .i64 sz, .int .i64 bd] rfl rfl HN6.out ?_))
          go_ret
          exact ⟨rfl, HM6.out.toBelow (Nat.le_refl _) (by have := HG.out; intro x hx; simp at hx; omega)⟩
      · have hk1' : (len : Int) ≤ (k : Int) := by omega
        have HTm := Lib.hid (turned_parse HT.out.1)
        have HBb := Lib.hid (HT.out.bytes (nums_bytes line))
        have hbs : (strOfNums bl).size ≤ 100000 := by rw [strOfNums_size]; omega
        have HPa := Lib.hid (fun W (h : Env W) => parsec_any line W h hs)
        have HPb := Lib.hid (fun W (h : Env W) => parsec_any (strOfNums bl) W h hbs)
        unfold ParseC at HPa HPb
        rw [nums_strOfNums HBb.out, HTm.out] at HPb
        have HCd : Hid (∃ C, cmD (parseC (nums line)).1 = C ∧ ∃ v sa slo sdm nn sz bd, C = #[.int .i64 v, .string sa, .string slo, .string sdm, .bool nn, .int .i64 sz, .int .i64 bd]) := Lib.hid ⟨_, rfl, _, _, _, _, _, _, _, rfl⟩
        obtain ⟨C, hC, v, sa, slo, sdm, nn, sz, bd, hCe⟩ := HCd.out
        rw [hC] at HPa HPb
        subst hCe
        generalize (parseC (nums line)).2 = code at *
        have HE0 := Lib.hid (show 7 ≤ g by have := HG.out; have := HE.out.lt; omega)
        clear hC HCd hbs HTm
        go_wp2_with fail
        refine (HPa.out _ (HE.out.mod HM.out (by have := HE0.out; intro x hx; simp at hx; omega))).mono ?_
        rintro e w5 ⟨rfl, hb5⟩
        have hn5 := heap_alloc_new w5 (.cells #[.int .i64 v, .string sa, .string slo, .string sdm, .bool nn, .int .i64 sz, .int .i64 bd] 26)
        have hm5 : Mod [] w5 (w5.alloc (.cells #[.int .i64 v, .string sa, .string slo, .string sdm, .bool nn, .int .i64 sz, .int .i64 bd] 26)) := (Mod.refl [] w5).alloc _
        have HN5 := Lib.hid hn5
        have HM5 := Lib.hid ((HM.out.trans ((Mod.ofBelow hb5).mono (by simp))).trans (hm5.mono (by simp)))
        have HR5 := Lib.hid ((HR.out.mod (Mod.ofBelow hb5) (by simp)).mod hm5 (by simp))
        clear hb5 hn5 hm5
        go_upto_region 13 with (fail)
        generalize w5.alloc (.cells #[.int .i64 v, .string sa, .string slo, .string sdm, .bool nn, .int .i64 sz, .int .i64 bd] 26) = u5 at *
        generalize w5.heap.size = g5 at *
        have F := run_str (P := Tryz.prog) (HR5.out.cells8 HBb.out) 39 9 5 line.size cap Tryz.underlying39 Tryz.underlying5 Tryz.underlying9 hbl.symm
        go_wp2_with fail
        refine (HPb.out _ (HE.out.mod HM5.out (by have := HE0.out; intro x hx; simp at hx; omega))).mono ?_
        rintro e w6 ⟨rfl, hb6⟩
        have hn6 := heap_alloc_new w6 (.cells #[.int .i64 v, .string sa, .string slo, .string sdm, .bool nn, .int .i64 sz, .int .i64 bd] 26)
        have hm6 : Mod [] w6 (w6.alloc (.cells #[.int .i64 v, .string sa, .string slo, .string sdm, .bool nn, .int .i64 sz, .int .i64 bd] 26)) := (Mod.refl [] w6).alloc _
        have HN6 := Lib.hid hn6
        have HN56 := Lib.hid (hm6.row (below_blk hb6 HN5.out) (by simp))
        have HM6 := Lib.hid ((HM5.out.trans ((Mod.ofBelow hb6).mono (by simp))).trans (hm6.mono (by simp)))
        clear hb6 hn6 hm6 F
        go_upto_region 14 with (fail)
        generalize w6.alloc (.cells #[.int .i64 v, .string sa, .string slo, .string sdm, .bool nn, .int .i64 sz, .int .i64 bd] 26) = u6 at *
        generalize w6.heap.size = g6 at *
        have q1 : (sa.toList == sa.toList) = true := by simp
        have q2 : (slo.toList == slo.toList) = true := by simp
        have q3 : (sdm.toList == sdm.toList) = true := by simp
        have q4 : (v == v) = true := by simp
        have q5 : (sz == sz) = true := by simp
        have q6 : (bd == bd) = true := by simp
        have q7 : (nn == nn) = true := by simp
        have q8 : (code == code) = true := by simp
        go_wp2_with (first | (refine wpList_load_cmd (by rfl) _ (by rfl) g5 #[.int .i64 v, .string sa, .string slo, .string sdm, .bool nn, .int .i64 sz, .int .i64 bd] rfl rfl HN56.out ?_) | (refine wpList_load_cmd (by rfl) _ (by rfl) g6 #[.int .i64 v, .string sa, .string slo, .string sdm, .bool nn, .int .i64 sz, .int .i64 bd] rfl rfl HN6.out ?_))
        go_ret
        exact ⟨rfl, HM6.out.toBelow (Nat.le_refl _) (by have := HG.out; intro x hx; simp at hx; omega)⟩
end Go.Proofs.YtebncajpamaodaaGreatDoor
