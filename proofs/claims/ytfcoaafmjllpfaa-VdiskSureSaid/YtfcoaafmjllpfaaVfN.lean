/- The disk: Read, Size, ReadAt. -/
import Derived.Test.YtfcoaafmjllpfaaVfM
namespace Go.Proofs.Ytfcoaafmjllpfaa
open Go.ChangeShapes Go.WideShapes Go.ChangeAt Go.RowKit
set_option linter.unusedVariables false
set_option linter.unusedSimpArgs false

/-- the files that names lead to -/
def Filed (w : World) (L : NmL) (F : Nat → FileD) : Prop := ∀ k b, findB L k = some b → (∃ vs vu vw ws, FileAt w b (F b) vs vu vw ws) ∧ (F b).seen.length ≤ 1000000000
def gotR (d : DiskN) (L : NmL) (F : Nat → FileD) (k : List UInt8) : List Int × Int := if d.down then ([], 11) else match findB L k with | some b => ((F b).seen, 0) | none => ([], 7)
def BytesR (x : List Int × Int) (w : World) (e : Ending) (w' : World) : Prop := ∃ a n c, e = .returned (.tuple #[.slice a n c, .int .i64 x.2]) ∧ Cells8 w' a x.1 ∧ n = x.1.length ∧ Mod [] w w'
theorem fileV_got {d : DiskN} {L : NmL} {F : Nat → FileD} {k : List UInt8} : (∃ b, findB L k = some b ∧ fileV d L k = (fptr b, 0) ∧ gotR d L F k = ((F b).seen, 0)) ∨ (∃ c, c ≠ 0 ∧ fileV d L k = (.pointer none, c) ∧ gotR d L F k = ([], c)) := by
  unfold fileV gotR
  by_cases hd : d.down = true
  · rw [if_pos hd, if_pos hd]; exact .inr ⟨11, by decide, rfl, rfl⟩
  · rw [if_neg hd, if_neg hd]
    cases findB L k with
    | none => exact .inr ⟨7, by decide, rfl, rfl⟩
    | some b => exact .inl ⟨b, rfl, rfl, rfl⟩
set_option maxHeartbeats 1000000 in
theorem read_any (w : World) (g : Nat) (d : DiskN) (nm su : Nat) (tu kn : Value) (h : DRow w g d nm su tu kn) (n : Nat) (L : NmL) (hn : Names w nm n L) (F : Nat → FileD) (hF : Filed w L F) (s : ByteArray) (hs : s.size ≤ maxLen) :
    Calls Try.prog 19 #[.pointer (some ⟨g, 0, none⟩), .string s] w (BytesR (gotR d L F s.data.toList) w) := by
  unfold BytesR
  have HFl := Lib.hid (file_any w g d nm su tu kn h n L hn s hs)
  rcases fileV_got (d := d) (L := L) (F := F) (k := s.data.toList) with ⟨b, hb, hv, hg⟩ | ⟨c, hc, hv, hg⟩
  · rw [hv] at HFl
    obtain ⟨⟨vs, vu, vw, ws, hf⟩, hll⟩ := hF _ _ hb
    obtain ⟨a, c, rfl, -, -⟩ := owns_shape hf.seen
    have k1 : w.cell? ⟨b, 1, none⟩ = some (.slice a (F b).seen.length c) := blk_cell hf.row 1
    have HC := Lib.hid (clone_any w a _ c (F b).seen (Cells8.ofOwns hf.bs hf.seen) rfl hll)
    unfold CloneP at HC
    have HG := Lib.hid hg
    have HBs := Lib.hid hf.bs
    clear hb hv hg hf h hn hF hll
    simp only [fptr] at HFl
    rw [HG.out]
    go_enter Try.func19, Try.ntmps19
    go_wp2_with (go_at_call 24; refine HFl.out.mono ?_; rintro e w1 ⟨rfl, rfl⟩)
    refine HC.out.mono ?_
    rintro e w2 ⟨v, rfl, ho, hb2⟩
    obtain ⟨a2, c2, rfl, -, -⟩ := owns_shape ho
    have HO := Lib.hid ho
    have HB2 := Lib.hid hb2
    clear ho hb2
    go_wp2_with fail
    go_ret2
    exact ⟨a2, _, c2, rfl, Cells8.ofOwns HBs.out HO.out, rfl, Mod.ofBelow HB2.out⟩
  · rw [hv] at HFl
    have hc0 : (c != 0) = true := by rw [bne_iff_ne]; exact hc
    have HG := Lib.hid hg
    clear hv hg h hn hF hc
    rw [HG.out]
    go_enter Try.func19, Try.ntmps19
    go_wp2_with (go_at_call 24; refine HFl.out.mono ?_; rintro e w1 ⟨rfl, rfl⟩)
    go_ret2
    exact ⟨none, 0, 0, rfl, Cells8.nil _ _, rfl, Mod.refl _ _⟩
theorem owns_le {w : World} {base : Nat} {e : TypeId} {size : Nat} {a : Option Addr} {n c : Nat} {xs : List Value} (h : w.ownsRow base e size (.slice a n c) n xs) : n ≤ c := by
  rcases h.2 with ⟨he, hn⟩ | ⟨g, cap, cur, hv, _, _, h1, _⟩
  · omega
  · simp only [Value.slice.injEq] at hv
    omega
/-- what ReadAt answers -/
def atR (x : List Int × Int) (at_ n : Int) : List Int × Int :=
  if x.2 ≠ 0 then ([], x.2) else if at_ < 0 ∨ n < 0 then ([], 1) else if (x.1.length : Int) < at_ ∨ (x.1.length : Int) - at_ < n then ([], 2) else ((x.1.drop at_.toNat).take n.toNat, 0)
theorem szU8 : ∀ w, (Go.sizeOf 5).run Try.prog w = .ok 1 w := fun w => by kernel_rfl
set_option maxHeartbeats 2000000 in
theorem readAt_any (w : World) (g : Nat) (d : DiskN) (nm su : Nat) (tu kn : Value) (h : DRow w g d nm su tu kn) (n : Nat) (L : NmL) (hn : Names w nm n L) (F : Nat → FileD) (hF : Filed w L F) (s : ByteArray) (hs : s.size ≤ maxLen) (i m : Int) (hi : -9223372036854775808 ≤ i ∧ i ≤ 9223372036854775807) (hm : -9223372036854775808 ≤ m ∧ m ≤ 9223372036854775807) :
    Calls Try.prog 8 #[.pointer (some ⟨g, 0, none⟩), .string s, .int .i64 i, .int .i64 m] w (BytesR (atR (gotR d L F s.data.toList) i m) w) := by
  unfold BytesR
  have HFl := Lib.hid (file_any w g d nm su tu kn h n L hn s hs)
  obtain ⟨hi1, hi2⟩ := hi
  obtain ⟨hm1, hm2⟩ := hm
  rcases fileV_got (d := d) (L := L) (F := F) (k := s.data.toList) with ⟨b, hb, hv, hg⟩ | ⟨c, hc, hv, hg⟩
  · rw [hv] at HFl
    obtain ⟨⟨vs, vu, vw, ws, hf⟩, hll⟩ := hF _ _ hb
    obtain ⟨a, c, rfl, -, -⟩ := owns_shape hf.seen
    have k1 : w.cell? ⟨b, 1, none⟩ = some (.slice a (F b).seen.length c) := blk_cell hf.row 1
    have hlc := owns_le hf.seen
    have hc8 := Cells8.ofOwns hf.bs hf.seen
    rw [hg]
    clear hb hv hg hf h hn hF
    simp only [fptr] at HFl
    obtain ⟨l, hl⟩ : ∃ l, (F b).seen = l := ⟨_, rfl⟩
    rw [hl] at hll hlc hc8 k1 ⊢
    clear hl
    have hnot : ¬ ((0 : Int) ≠ 0) := by decide
    by_cases hneg : i < 0 ∨ m < 0
    · have HR := Lib.hid (show atR (l, 0) i m = ([], 1) by unfold atR; rw [if_neg hnot, if_pos hneg])
      rw [HR.out]
      have hx : i < 0 ∨ (0 ≤ i ∧ m < 0) := by omega
      clear hneg hc8
      rcases hx with h1 | ⟨h1, h2⟩
      all_goals
        go_enter Try.func8, Try.ntmps8
        go_wp2_with (go_at_call 24; refine HFl.out.mono ?_; rintro e w1 ⟨rfl, rfl⟩)
        go_ret2
        exact ⟨none, 0, 0, rfl, Cells8.nil _ _, rfl, Mod.refl _ _⟩
    · have hi0 : 0 ≤ i := by omega
      have hm0 : 0 ≤ m := by omega
      by_cases hsh : (l.length : Int) < i ∨ (l.length : Int) - i < m
      · have HR := Lib.hid (show atR (l, 0) i m = ([], 2) by unfold atR; rw [if_neg hnot, if_neg hneg, if_pos hsh])
        rw [HR.out]
        have hx : (l.length : Int) < i ∨ (i ≤ (l.length : Int) ∧ (l.length : Int) - i < m) := by omega
        clear hneg hsh hc8
        rcases hx with h1 | ⟨h1, h2⟩
        all_goals
          go_enter Try.func8, Try.ntmps8
          go_wp2_with (go_at_call 24; refine HFl.out.mono ?_; rintro e w1 ⟨rfl, rfl⟩)
          go_ret2
          exact ⟨none, 0, 0, rfl, Cells8.nil _ _, rfl, Mod.refl _ _⟩
      · have HR := Lib.hid (show atR (l, 0) i m = ((l.drop i.toNat).take m.toNat, 0) by unfold atR; rw [if_neg hnot, if_neg hneg, if_neg hsh])
        rw [HR.out]
        obtain ⟨lo, rfl⟩ : ∃ lo : Nat, i = lo := ⟨i.toNat, by omega⟩
        obtain ⟨q, rfl⟩ : ∃ q : Nat, m = q := ⟨m.toNat, by omega⟩
        obtain ⟨a2, c2, hsl, -, -, hcs⟩ := slice8 (P := Try.prog) 22 5 Try.underlying22 szU8 a l.length c lo (lo + q) (by omega) (by omega) hlc
        have hc2 := hcs w l rfl hc8
        rw [show lo + q - lo = q by omega] at hsl hc2
        rw [show ((lo + q : Nat) : Int) = (lo : Int) + (q : Int) by push_cast; rfl] at hsl
        have hlen : ((l.drop lo).take q).length = q := by rw [List.length_take, List.length_drop]; omega
        have HC := Lib.hid (clone_any w a2 q c2 _ hc2 hlen.symm (by omega))
        unfold CloneP at HC
        have HBs := Lib.hid hc2.1
        have h1 : (lo : Int) ≤ (l.length : Int) := by omega
        have h2 : (q : Int) ≤ (l.length : Int) - (lo : Int) := by omega
        have ht1 : ((lo : Int)).toNat = lo := Int.toNat_natCast lo
        have ht2 : ((q : Int)).toNat = q := Int.toNat_natCast q
        rw [ht1, ht2]
        have HLe := Lib.hid hlen
        generalize (l.drop lo).take q = r at *
        clear hneg hsh hc8 hcs hc2 hlen HR
        go_enter Try.func8, Try.ntmps8
        go_wp2_with (go_at_call 24; refine HFl.out.mono ?_; rintro e w1 ⟨rfl, rfl⟩)
        refine HC.out.mono ?_
        rintro e w2 ⟨v, rfl, ho, hb2⟩
        obtain ⟨a3, c3, rfl, -, -⟩ := owns_shape ho
        have HO := Lib.hid ho
        have HB2 := Lib.hid hb2
        clear ho hb2
        go_wp2_with fail
        go_ret2
        exact ⟨a3, _, c3, rfl, Cells8.ofOwns HBs.out HO.out, rfl, Mod.ofBelow HB2.out⟩
  · rw [hv] at HFl
    have hc0 : (c != 0) = true := by rw [bne_iff_ne]; exact hc
    have HG := Lib.hid (show atR (gotR d L F s.data.toList) i m = ([], c) by rw [hg]; unfold atR; rw [if_pos hc])
    clear hv hg h hn hF hc
    rw [HG.out]
    go_enter Try.func8, Try.ntmps8
    go_wp2_with (go_at_call 24; refine HFl.out.mono ?_; rintro e w1 ⟨rfl, rfl⟩)
    go_ret2
    exact ⟨none, 0, 0, rfl, Cells8.nil _ _, rfl, Mod.refl _ _⟩
end Go.Proofs.Ytfcoaafmjllpfaa
