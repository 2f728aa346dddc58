/- CrcTells: for every input. -/
import Derived.Test.YtmgjbcaaibcdmaaDoorCrcL
import Derived.OwnWalk
import Derived.Lib.SmallJoins
namespace Go.Proofs.YtmgjbcaaibcdmaaDoor
open Go.ChangeShapes Go.WideShapes Go.ChangeAt Go.RowKit
set_option linter.unusedVariables false
set_option linter.unusedSimpArgs false

theorem Tryd.info8 : (Tryd.prog.info? 5).map (fun i => (i.zero, i.size, i.bytes)) = some (some (.int .u8 0), 1, 1) := by kernel_rfl

theorem xor8 (y x : Int) (hy : 0 ≤ y ∧ y < 256) (hx : 0 ≤ x ∧ x < 256) (h0 : ¬ x = 0) : (0 ≤ bits .xor .u8 y x ∧ bits .xor .u8 y x < 256) ∧ bits .xor .u8 y x ≠ y := by
  obtain ⟨a, rfl⟩ := Int.eq_ofNat_of_zero_le hy.1
  obtain ⟨b, rfl⟩ := Int.eq_ofNat_of_zero_le hx.1
  have ha : a < 256 := by omega
  have hb : b < 256 := by omega
  have hxl : a ^^^ b < 2 ^ 8 := Nat.xor_lt_two_pow (by omega) (by omega)
  have e : bits .xor .u8 (a : Int) (b : Int) = ((a ^^^ b : Nat) : Int) := by
    show IntKind.u8.wrap (((BitVec.ofInt 8 (a : Int) ^^^ BitVec.ofInt 8 (b : Int)).toNat : Nat) : Int) = _
    rw [BitVec.toNat_xor, BitVec.ofInt_natCast, BitVec.ofInt_natCast, BitVec.toNat_ofNat, BitVec.toNat_ofNat, Nat.mod_eq_of_lt (show a < 2 ^ 8 by omega), Nat.mod_eq_of_lt (show b < 2 ^ 8 by omega)]
    exact wraps_u8 ((a ^^^ b : Nat) : Int) (Int.natCast_nonneg _) (by omega)
  rw [e]
  refine ⟨by omega, fun h => h0 ?_⟩
  have h1 : a ^^^ b = a := by omega
  have h2 : a ^^^ (a ^^^ b) = 0 := by rw [h1, Nat.xor_self]
  rw [← Nat.xor_assoc, Nat.xor_self, Nat.zero_xor] at h2
  omega

theorem split_at {l : List Int} (n : Nat) (hn : n < l.length) (z : Int) : l = l.take n ++ l.getD n 0 :: l.drop (n + 1) ∧ l.set n z = l.take n ++ z :: l.drop (n + 1) := by
  refine ⟨?_, List.set_eq_take_append_cons_drop.trans (if_pos hn)⟩
  have : l.getD n 0 = l[n] := by simp [List.getD, hn]
  rw [this, List.getElem_cons_drop, List.take_append_drop]
/-- bits of one byte that are turned turn the sum -/
theorem sum_tells {l : List Int} (hb : Bytes l) (n : Nat) (hn : n < l.length) (z : Int) (hz : 0 ≤ z ∧ z < 256) (hne : z ≠ l.getD n 0) (s : St) : sumV s (l.set n z) ≠ sumV s l := by
  intro h
  obtain ⟨e1, e2⟩ := split_at n hn z
  have h1 := congrArg (fun s : St => ~~~s) h
  simp only [sumV, BitVec.not_not] at h1
  rw [e2, e1] at h1
  have e3 : List.take n (List.take n l ++ l.getD n 0 :: List.drop (n + 1) l) = List.take n l := by rw [← e1]
  have e4 : List.drop (n + 1) (List.take n l ++ l.getD n 0 :: List.drop (n + 1) l) = List.drop (n + 1) l := by rw [← e1]
  rw [e3, e4] at h1
  exact hne (feed_tells _ _ _ _ _ hz (hb.getD n) h1)
theorem bytes_set {l : List Int} (hb : Bytes l) (n : Nat) (z : Int) (hz : 0 ≤ z ∧ z < 256) : Bytes (l.set n z) := by
  intro x hx
  rcases List.mem_or_eq_of_mem_set hx with h | h
  · exact hb x h
  · omega
theorem U_ne {a b : St} (h : a ≠ b) : (U a == U b) = false := by
  simp only [beq_eq_false_iff_ne]
  exact fun e => h (U_inj e)

set_option maxHeartbeats 2000000 in
theorem crcTells_any (l r : List Int) (a ar : Option Addr) (cap capr len lenr : Nat) (n x : Int) (w : World) (hc : Cells8 w a l) (hn : len = l.length) (hl : l.length ≤ 9223372036854775807) (hcr : Cells8 w ar r) (hnr : lenr = r.length) (hlr : r.length ≤ 9223372036854775807)
    (hx : 0 ≤ x ∧ x < 256) (ht : Halves w) :
    Calls Tryd.prog 5 #[.slice a len cap, .int .i64 n, .int .u8 x, .slice ar lenr capr] w fun e w' => e = .returned (.bool true) ∧ Below w.heap.size w w' := by
  subst hn hnr
  have HT := Lib.hid ht
  have HC := Lib.hid hc
  have HR := Lib.hid hcr
  clear ht hc hcr
  go_enter Tryd.func5, Tryd.ntmps5
  go_wp2_with fail
  refine (awake_any w HT.out).mono ?_
  rintro e w1 ⟨rfl, hb⟩
  have HB := Lib.hid hb
  have HT1 := Lib.hid (HT.out.mod (F := []) (Mod.ofBelow hb) (by simp))
  have HC1 := Lib.hid (HC.out.old hb)
  have HR1 := Lib.hid (HR.out.old hb)
  clear hb
  by_cases h1 : 3000 < (l.length : Int)
  · go_wp2_with fail
    go_ret
    exact ⟨rfl, HB.out⟩
  by_cases h2 : 3000 < (r.length : Int)
  · go_wp2_with fail
    go_ret
    exact ⟨rfl, HB.out⟩
  by_cases h3 : n < 0
  · go_wp2_with fail
    go_ret
    exact ⟨rfl, HB.out⟩
  by_cases h4 : (l.length : Int) ≤ n
  · go_wp2_with fail
    go_ret
    exact ⟨rfl, HB.out⟩
  by_cases h5 : x = 0
  · subst h5
    go_wp2_with fail
    go_ret
    exact ⟨rfl, HB.out⟩
  obtain ⟨m, rfl⟩ := Int.eq_ofNat_of_zero_le (show 0 ≤ n by omega)
  have hml : m < l.length := by omega
  have d1 : decide (3000 < (l.length : Int)) = false := by simp; omega
  have d2 : decide (3000 < (r.length : Int)) = false := by simp; omega
  have d3 : decide ((m : Int) < 0) = false := by simp
  have d4 : decide ((l.length : Int) ≤ (m : Int)) = false := by simp; omega
  have d5 : decide (l.length ≤ m) = false := by simp; omega
  have d6 : (x == 0) = false := by simpa using h5
  go_wp2_with (at_builtin; refine wpList_append8 _ rfl _ _ 22 22 rfl 5 Tryd.underlying22 Tryd.info8 _ [] rfl (World.ownsRow_lit w1 #[] 0 (Nat.zero_le _) (Nat.zero_le _) rfl) _ _ l rfl (Src.of8 (HC1.out.mod ((Mod.refl [] w1).alloc _) (by simp)) Tryd.underlying22 _ _ rfl) (by simp; omega) l rfl ?_)
  intro v1 w2 hg
  obtain ⟨a1, cap1, rfl⟩ := hg.shape
  obtain ⟨h21, h22⟩ := hg.since (B := w1.heap.size) (by simp) (by intro k hk; simp [Value.ownBlock] at hk; omega)
  have h23 := ((Below.refl w1.heap.size w1).alloc (Nat.le_refl _) _).trans h22
  clear hg h22
  obtain ⟨g, cap2, e2⟩ := Joins.ownsRow_form h21 (by omega)
  simp only [Value.slice.injEq] at e2
  obtain ⟨rfl, _, rfl⟩ := e2
  have hcell := h21.cellAt m (by omega)
  have hfr := h21.frozenAt m
  have hy := HC1.out.1.getD m
  have hcell' : w2.cell? ⟨g, m, none⟩ = some (.int .u8 (l.getD m 0)) := by
    rw [hcell]; simp [u8s, hml]
  clear hcell
  obtain ⟨hz1, hz2⟩ := xor8 (l.getD m 0) x hy hx h5
  have hne := sum_tells HC1.out.1 m hml _ hz1 hz2 0#32
  have hbs := bytes_set HC1.out.1 m _ hz1
  have hst := (h21.stored m (.int .u8 (bits .xor .u8 (l.getD m 0) x))).1
  rw [← u8s_set] at hst
  have hlen : (l.set m (bits .xor .u8 (l.getD m 0) x)).length = l.length := by simp
  have hgl : w1.heap.size ≤ g := (h21.lt g rfl).1
  have h3 : Below w1.heap.size w1 (w2.setCell ⟨g, m, none⟩ (.int .u8 (bits .xor .u8 (l.getD m 0) x))) := h23.setCell hgl _
  generalize l.set m (bits .xor .u8 (l.getD m 0) x) = l' at *
  generalize hxz : bits .xor .u8 (l.getD m 0) x = z at *
  generalize l.getD m 0 = y at *
  have HL := Lib.hid hlen
  have HNE := Lib.hid hne
  have hc3 : Cells8 (w2.setCell ⟨g, m, none⟩ (.int .u8 z)) (some ⟨g, 0, none⟩) l' := Cells8.ofOwns hbs hst
  have HC3' := Lib.hid hc3
  have HT3 := Lib.hid (HT1.out.mod (Mod.ofBelow h3) (by simp))
  have HC3 := Lib.hid (HC1.out.old h3)
  have HR3 := Lib.hid (HR1.out.old h3)
  have HB3 := Lib.hid (HB.out.trans (h3.mono HB.out.size))
  clear hne hbs hst hlen hz1 hz2 h21 h23 h3 hc3
  go_wp2_with fail
  generalize w2.setCell ⟨g, m, none⟩ (.int .u8 z) = w3 at *
  have HO' := of_any' l' _ cap1 w3 HC3'.out (by rw [HL.out]; omega) HT3.out
  rw [HL.out] at HO'
  refine HO'.mono ?_
  rintro e w3' ⟨rfl, rfl⟩
  clear HO'
  go_wp2_with fail
  refine (of_any' l a cap w3 HC3.out hl HT3.out).mono ?_
  rintro e w3' ⟨rfl, rfl⟩
  have u1 := U_ne HNE.out
  have HM1 := Lib.hid (more_any (sumV 0#32 l') r ar capr w3 HR3.out hlr HT3.out)
  have HM2 := Lib.hid (more_any (sumV 0#32 l) r ar capr w3 HR3.out hlr HT3.out)
  have u2 : (U (sumV (sumV 0#32 l') r) == U (sumV (sumV 0#32 l) r)) = false := U_ne fun h => HNE.out (sumV_inj r _ _ h)
  have HO1 := Lib.hid (of_any' l' _ cap1 w3 HC3'.out (by rw [HL.out]; omega) HT3.out)
  rw [HL.out] at HO1
  have HO2 := Lib.hid (of_any' l a cap w3 HC3.out hl HT3.out)
  have u3 : U (sumV 0#32 l') ≠ U (sumV 0#32 l) := fun h => HNE.out (U_inj h)
  have u4 : U (sumV (sumV 0#32 l') r) ≠ U (sumV (sumV 0#32 l) r) := fun h => HNE.out (sumV_inj r _ _ (U_inj h))
  have u5 : (U (sumV 0#32 l') != U (sumV 0#32 l)) = true := by simpa using u3
  have u6 : (U (sumV (sumV 0#32 l') r) != U (sumV (sumV 0#32 l) r)) = true := by simpa using u4
  generalize U (sumV (sumV 0#32 l') r) = q1 at *
  generalize U (sumV (sumV 0#32 l) r) = q2 at *
  generalize U (sumV 0#32 l') = p1 at *
  generalize U (sumV 0#32 l) = p2 at *
  go_wp2_with fail
  refine HO1.out.mono ?_
  rintro e w3' ⟨rfl, rfl⟩
  go_wp2_with fail
  refine HM1.out.mono ?_
  rintro e w3' ⟨rfl, rfl⟩
  go_wp2_with fail
  refine HO2.out.mono ?_
  rintro e w3' ⟨rfl, rfl⟩
  go_wp2_with fail
  refine HM2.out.mono ?_
  rintro e w3' ⟨rfl, rfl⟩
  go_wp2_with fail
  go_ret
  exact ⟨by simp, HB3.out⟩
end Go.Proofs.YtmgjbcaaibcdmaaDoor
