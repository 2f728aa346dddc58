/- DotBack: what is sent is read as it was. -/
import Derived.Test.YthcgnnhfkejglaaDoorDtQd
import Derived.Test.YthcgnnhfkejglaaDoorDtO
import Derived.Test.YthcgnnhfkejglaaDoorDtZ
namespace Go.Proofs.YthcgnnhfkejglaaDoor
open Go.Shelf Go.ChangeShapes Go.WideShapes Go.ChangeAt Go.RowKit
set_option linter.unusedVariables false
set_option linter.unusedSimpArgs false

theorem sendL_bytes' {l : List Int} (hb : Bytes l) : Bytes (sendL l) := by
  have h1 := upTo_bytes hb (cntL l + 1)
  rw [upTo_all] at h1
  unfold sendL sfxL
  refine (h1.append ?_).append (by unfold Bytes; decide)
  split
  · unfold Bytes; decide
  · exact Bytes.nil
theorem sfxL_len (l : List Int) : (sfxL l).length ≤ 2 := by unfold sfxL; split <;> simp
theorem owns_empty (w : World) : (w.alloc (.cells #[] 5)).ownsRow 0 5 1 (.slice (some ⟨w.heap.size, 0, none⟩) 0 0) ([] : List Int).length (u8s []) := by
  refine ⟨rfl, .inr ⟨w.heap.size, 0, #[], rfl, Nat.zero_le _, heap_alloc_new w _, Nat.le_refl _, by simp [maxLen], rfl, rfl⟩⟩
/-- what is known of the answer where the message is plain -/
theorem back_plain {l bh : List Int} (hp : plainL l = true) : feedS s0 (sendL l ++ bh) = (⟨5, 0, l ++ sfxL l, false, false⟩, (sendL l).length) := by
  rw [feed_send l bh s0 rfl rfl hp]; rfl

set_option maxRecDepth 100000 in
set_option maxHeartbeats 16000000 in
theorem dback_any (w : World) (a : Option Addr) (n cap : Nat) (l : List Int) (a' : Option Addr) (n' cap' : Nat) (bh : List Int) (h : In8 w a n cap l) (h' : In8 w a' n' cap' bh) (hM : ML w) (hnl : l.length ≤ 9223372036854775807) (hnb : bh.length ≤ 9223372036854775807) :
    Calls Tryd.prog 6 #[.slice a n cap, .slice a' n' cap'] w (AwP w) := by
  obtain ⟨hc, rfl⟩ := h.cells
  obtain ⟨hc', rfl⟩ := h'.cells
  have HAw := Lib.hid (awake_any w hM)
  have HMl := Lib.hid hM
  have HIn := Lib.hid h
  have HC := Lib.hid hc
  have HC' := Lib.hid hc'
  clear h h' hM hc hc'
  go_enter Tryd.func6, Tryd.ntmps6
  go_wp2_with fail
  refine HAw.out.mono ?_
  rintro e w3 ⟨rfl, hb⟩
  have HM := Lib.hid (Mod.ofBelow hb)
  clear hb HAw
  by_cases hl : 3000 < l.length
  · have hl' : (3000 : Int) < (l.length : Int) := by omega
    go_wp2_with fail
    go_ret
    exact ⟨rfl, HM.out.toBelow (Nat.le_refl _) (by simp)⟩
  have hl' : (l.length : Int) ≤ 3000 := by omega
  by_cases hl2 : 300 < bh.length
  · have hl2' : (300 : Int) < (bh.length : Int) := by omega
    go_wp2_with fail
    go_ret
    exact ⟨rfl, HM.out.toBelow (Nat.le_refl _) (by simp)⟩
  have hl2' : (bh.length : Int) ≤ 300 := by omega
  have hlN : l.length ≤ 3000 := by omega
  have hbN : bh.length ≤ 300 := by omega
  clear hl hl2
  have hsl := sendL_len l
  have HSb := Lib.hid (sendL_bytes' HC.out.1)
  have HPl := Lib.hid (fun (hp : plainL l = true) => back_plain (bh := bh) hp)
  have HSx := Lib.hid (sfxL_len l)
  have HOp := Lib.hid (show sfxL l = if openE l then [13, 10] else [] from rfl)
  generalize hss : sendL l = SS at *
  have HSS := Lib.hid hss
  clear hss
  go_wp2_with fail
  refine (send_any _ a _ cap l (HIn.out.quiet HM.out) (HMl.out.quiet HM.out) (by omega)).mono ?_
  rintro e w4 ⟨v4, rfl, ho4, hb4⟩
  rw [HSS.out] at ho4
  obtain ⟨a4, c4, rfl, -, -⟩ := owns_shape ho4
  have HM4 := Lib.hid (HM.out.trans (Mod.ofBelow hb4))
  have HC4 := Lib.hid (Cells8.ofOwns HSb.out ho4)
  have hal : Mod [] w4 (w4.alloc (.cells #[] 5)) := (Mod.refl [] w4).alloc _
  have HAl := Lib.hid hal
  clear ho4 hb4 hal
  go_wp2_with (at_builtin; refine wpList_append8 _ rfl _ _ 22 22 rfl 5 Tryd.underlying22 info8 _ [] rfl (owns_empty w4) _ _ SS rfl (Src.of8 (HC4.out.mod HAl.out (by simp)) Tryd.underlying22 _ _ rfl) (by simp; omega) SS rfl ?_)
  intro v5 w5 hg5
  have hm5 : Mod [] w4 w5 := HAl.out.trans' hg5.mod (by intro x hx; right; simp [Value.ownBlock] at hx; omega)
  have HM5 := Lib.hid (HM4.out.trans hm5)
  have ho5 := hg5.own
  have hfr5 : ∀ k, v5.ownBlock = some k → w4.heap.size ≤ k := by
    intro k hk
    rcases hg5.blk with e | e
    · rw [e] at hk; simp [Value.ownBlock] at hk; omega
    · rw [e] at hk; simp at hk; omega
  obtain ⟨a5, c5, rfl, -, -⟩ := owns_shape ho5
  have HO5 := Lib.hid ho5
  have HFr5 := Lib.hid hfr5
  have HMm5 := Lib.hid hm5
  clear hg5 hm5 ho5 hfr5
  go_wp2_with (at_builtin; refine wpList_append8 _ rfl _ _ 22 22 rfl 5 Tryd.underlying22 info8 _ SS rfl HO5.out _ _ bh rfl (Src.of8 (HC'.out.mod HM5.out (by simp)) Tryd.underlying22 _ _ rfl) (by omega) (SS ++ bh) rfl ?_)
  intro v6 w6 hg6
  have hm6 : Mod [] w4 w6 := HMm5.out.trans' hg6.mod (by intro x hx; right; exact HFr5.out x (by simpa using hx))
  have HM6 := Lib.hid (HM4.out.trans hm6)
  have ho6 := hg6.own
  obtain ⟨a6, c6, rfl, -, -⟩ := owns_shape ho6
  have HC6 := Lib.hid (Cells8.ofOwns (HSb.out.append HC'.out.1) ho6)
  have HD := Lib.hid (decode_any w6 4000 (by omega) a6 c6 (SS ++ bh) HC6.out (by rw [List.length_append]; omega))
  have hbD := feedS_bytes (SS ++ bh) s0 (HSb.out.append HC'.out.1) Bytes.nil
  have HbD := Lib.hid hbD
  clear hg6 hm6 ho6 hbD
  have hlen : (SS ++ bh).length = SS.length + bh.length := List.length_append
  rw [hlen] at HD
  clear hlen
  unfold DecP at HD
  have h40 : (4000 : Int).toNat = 4000 := rfl
  rw [h40] at HD
  clear h40
  generalize feedS s0 (SS ++ bh) = R at *
  generalize hdn : decide (R.1.st = 5) = dn at HD
  have HDn := Lib.hid hdn
  clear hdn
  go_wp2_with fail
  refine HD.out.mono ?_
  rintro e w7 ⟨v7, rfl, ho7, hb7⟩
  obtain ⟨a7, c7, rfl, -, -⟩ := owns_shape ho7
  have hc7 := Cells8.ofOwns (HbD.out.take 4000) ho7
  have hm7 := Mod.ofBelow hb7
  have HPd := Lib.hid (fun (hp : plainL l = true) => (HPl.out hp))
  obtain ⟨lo, hlo⟩ : ∃ lo, R.1.long = lo := ⟨_, rfl⟩
  obtain ⟨ba, hba⟩ : ∃ ba, R.1.bare = ba := ⟨_, rfl⟩
  obtain ⟨la, hla⟩ : ∃ la, decide (4000 < R.1.all.length) = la := ⟨_, rfl⟩
  obtain ⟨K, hK⟩ : ∃ K, R.1.all.take 4000 = K := ⟨_, rfl⟩
  obtain ⟨us, hus⟩ : ∃ us, R.2 = us := ⟨_, rfl⟩
  rw [hK] at hc7
  rw [hlo, hba, hla, hK, hus]
  have HAns := Lib.hid (show plainL l = true → lo = false ∧ ba = false ∧ la = false ∧ K = l ++ sfxL l ∧ us = SS.length ∧ dn = true by
    intro hp
    have hR := HPd.out hp
    have hsx := HSx.out
    have hK2 : (l ++ sfxL l).length ≤ 4000 := by rw [List.length_append]; omega
    refine ⟨by rw [← hlo, hR], by rw [← hba, hR], by rw [← hla, hR]; simp only [decide_eq_false_iff_not]; omega, by rw [← hK, hR]; exact List.take_of_length_le hK2, by rw [← hus, hR], by rw [← HDn.out, hR]; rfl⟩)
  have ht := heap_alloc_new w7 (.cells (txC (.slice a7 K.length c7) lo ba la) 28)
  have hm8 : Mod [] w7 (w7.alloc (.cells (txC (.slice a7 K.length c7) lo ba la) 28)) := (Mod.refl [] w7).alloc _
  have HT := Lib.hid ht
  have HM8 := Lib.hid ((HM6.out.trans hm7).trans hm8)
  have HC8 := Lib.hid (hc7.mod hm8 (by simp))
  clear hc7 hm7 hm8 ht ho7 hb7 hlo hba hla hK hus HPd HPl HbD HD
  go_upto_region 7 with (fail)
  generalize w7.alloc (.cells (txC (.slice a7 K.length c7) lo ba la) 28) = w8 at *
  generalize w7.heap.size = tb at *
  have hcv := run_str (P := Tryd.prog) (HC.out.mod HM8.out (by simp)) 22 9 5 l.length cap Tryd.underlying22 Tryd.underlying5 Tryd.underlying9 rfl
  have hcv8 := run_str (P := Tryd.prog) HC8.out 22 9 5 K.length c7 Tryd.underlying22 Tryd.underlying5 Tryd.underlying9 rfl
  have hRp := rplain_any w8 a cap l (HC.out.mod HM8.out (by simp)) (by omega)
  have k0 := blk_cell HT.out 0
  have k1 := blk_cell HT.out 1
  have k2 := blk_cell HT.out 2
  have k3 := blk_cell HT.out 3
  have hsn := size_strOfNums l
  have ha2 := add_strP (P := Tryd.prog) (strOfNums l) ⟨#[13, 10]⟩ (by omega) (by decide)
  have HW2 := Lib.hid (show strOfNums l ++ ({ data := #[13, 10] } : ByteArray) = strOfNums (l ++ [13, 10]) by rw [show ({ data := #[13, 10] } : ByteArray) = strOfNums [13, 10] by decide +kernel, strOfNums_append])
  have HRp := Lib.hid hRp
  clear hRp hsn
  by_cases n0 : l.length = 0
  · have hl0 : ¬ (0 : Int) < (l.length : Int) := by omega
    have hop : openE l = false := by rw [List.eq_nil_of_length_eq_zero n0, openE_no rfl]; rfl
    clear n0
    have HSf := Lib.hid (show strOfNums l = strOfNums (l ++ sfxL l) by rw [HOp.out, hop]; simp)
    clear hop
    by_cases hp : plainL l = true
    · obtain ⟨rfl, rfl, rfl, h4, rfl, rfl⟩ := HAns.out hp
      have hq : ((strOfNums K).toList == (strOfNums l).toList) = true := by rw [h4, ← HSf.out]; simp
      have HRp := HRp
      rw [hp] at HRp
      have HP := Lib.hid hp
      clear hp h4
      go_wp2_with ((go_at_call 20; refine HRp.out.mono ?_); rintro e w' ⟨rfl, rfl⟩)
      go_ret
      exact ⟨rfl, HM8.out.toBelow (Nat.le_refl _) (by simp)⟩
    · have hp' : plainL l = false := by simpa using hp
      have HRp := HRp
      rw [hp'] at HRp
      clear hp hp'
      go_wp2_with ((go_at_call 20; refine HRp.out.mono ?_); rintro e w' ⟨rfl, rfl⟩)
      go_ret
      exact ⟨rfl, HM8.out.toBelow (Nat.le_refl _) (by simp)⟩
  · have hne : l ≠ [] := by rintro rfl; exact n0 rfl
    have HG := Lib.hid (sfx_get hne)
    have n1 : (0 : Int) < (l.length : Int) := by omega
    obtain ⟨b0, o0, rfl, -⟩ := HC.out.addr (by omega)
    clear hne
    by_cases n2 : l.length < 2
    · have n2' : ¬ (2 : Int) ≤ (l.length : Int) := by omega
      have hop : openE l = true := by
        cases h : openE l with
        | true => rfl
        | false => have h2 := (HG.out.1 h).1; omega
      clear n2 n0
      have HSf := Lib.hid (show strOfNums l ++ ({ data := #[13, 10] } : ByteArray) = strOfNums (l ++ sfxL l) by rw [HOp.out, hop, HW2.out]; rfl)
      clear hop
      by_cases hp : plainL l = true
      · obtain ⟨rfl, rfl, rfl, h4, rfl, rfl⟩ := HAns.out hp
        have hq : ((strOfNums K).toList == (strOfNums l ++ ({ data := #[13, 10] } : ByteArray)).toList) = true := by rw [h4, ← HSf.out]; simp
        have HRp := HRp
        rw [hp] at HRp
        have HP := Lib.hid hp
        clear hp h4
        go_wp2_with ((go_at_call 20; refine HRp.out.mono ?_); rintro e w' ⟨rfl, rfl⟩)
        go_ret
        exact ⟨rfl, HM8.out.toBelow (Nat.le_refl _) (by simp)⟩
      · have hp' : plainL l = false := by simpa using hp
        have HRp := HRp
        rw [hp'] at HRp
        clear hp hp'
        go_wp2_with ((go_at_call 20; refine HRp.out.mono ?_); rintro e w' ⟨rfl, rfl⟩)
        go_ret
        exact ⟨rfl, HM8.out.toBelow (Nat.le_refl _) (by simp)⟩
    · have n2' : (2 : Int) ≤ (l.length : Int) := by omega
      have hc8 := HC.out.mod HM8.out (by simp)
      have q1 := hc8.at (l.length - 2) (by omega)
      have q2 := hc8.at (l.length - 1) (by omega)
      have HOe := Lib.hid (show openE l = false ↔ (l.getD (l.length - 2) 0 = 13 ∧ l.getD (l.length - 1) 0 = 10) by rw [HG.out]; exact ⟨fun h => h.2, fun h => ⟨by omega, h⟩⟩)
      generalize l.getD (l.length - 2) 0 = x at *
      generalize l.getD (l.length - 1) 0 = y at *
      have hz2 : ((l.length : Int) - 2).toNat = l.length - 2 := by omega
      have hz1 : ((l.length : Int) - 1).toNat = l.length - 1 := by omega
      clear n2 n0 hc8
      by_cases hxx : x = 13
      · have ex : (x == 13) = true := by simp [hxx]
        by_cases hyy : y = 10
        · have ey : (y == 10) = true := by simp [hyy]
          have hop := HOe.out.2 ⟨hxx, hyy⟩
          clear hxx hyy
          have HSf := Lib.hid (show strOfNums l = strOfNums (l ++ sfxL l) by rw [HOp.out, hop]; simp)
          clear hop
          by_cases hp : plainL l = true
          · obtain ⟨rfl, rfl, rfl, h4, rfl, rfl⟩ := HAns.out hp
            have hq : ((strOfNums K).toList == (strOfNums l).toList) = true := by rw [h4, ← HSf.out]; simp
            have HRp := HRp
            rw [hp] at HRp
            have HP := Lib.hid hp
            clear hp h4
            go_wp2_with ((go_at_call 20; refine HRp.out.mono ?_); rintro e w' ⟨rfl, rfl⟩)
            go_ret
            exact ⟨rfl, HM8.out.toBelow (Nat.le_refl _) (by simp)⟩
          · have hp' : plainL l = false := by simpa using hp
            have HRp := HRp
            rw [hp'] at HRp
            clear hp hp'
            go_wp2_with ((go_at_call 20; refine HRp.out.mono ?_); rintro e w' ⟨rfl, rfl⟩)
            go_ret
            exact ⟨rfl, HM8.out.toBelow (Nat.le_refl _) (by simp)⟩
        · have ey : (y == 10) = false := by simp [hyy]
          have hop : openE l = true := by
            cases h : openE l with
            | true => rfl
            | false => exact absurd (HOe.out.1 h).2 hyy
          clear hxx hyy
          have HSf := Lib.hid (show strOfNums l ++ ({ data := #[13, 10] } : ByteArray) = strOfNums (l ++ sfxL l) by rw [HOp.out, hop, HW2.out]; rfl)
          clear hop
          by_cases hp : plainL l = true
          · obtain ⟨rfl, rfl, rfl, h4, rfl, rfl⟩ := HAns.out hp
            have hq : ((strOfNums K).toList == (strOfNums l ++ ({ data := #[13, 10] } : ByteArray)).toList) = true := by rw [h4, ← HSf.out]; simp
            have HRp := HRp
            rw [hp] at HRp
            have HP := Lib.hid hp
            clear hp h4
            go_wp2_with ((go_at_call 20; refine HRp.out.mono ?_); rintro e w' ⟨rfl, rfl⟩)
            go_ret
            exact ⟨rfl, HM8.out.toBelow (Nat.le_refl _) (by simp)⟩
          · have hp' : plainL l = false := by simpa using hp
            have HRp := HRp
            rw [hp'] at HRp
            clear hp hp'
            go_wp2_with ((go_at_call 20; refine HRp.out.mono ?_); rintro e w' ⟨rfl, rfl⟩)
            go_ret
            exact ⟨rfl, HM8.out.toBelow (Nat.le_refl _) (by simp)⟩
      · have ex : (x == 13) = false := by simp [hxx]
        have hop : openE l = true := by
          cases h : openE l with
          | true => rfl
          | false => exact absurd (HOe.out.1 h).1 hxx
        clear hxx
        have HSf := Lib.hid (show strOfNums l ++ ({ data := #[13, 10] } : ByteArray) = strOfNums (l ++ sfxL l) by rw [HOp.out, hop, HW2.out]; rfl)
        clear hop
        by_cases hp : plainL l = true
        · obtain ⟨rfl, rfl, rfl, h4, rfl, rfl⟩ := HAns.out hp
          have hq : ((strOfNums K).toList == (strOfNums l ++ ({ data := #[13, 10] } : ByteArray)).toList) = true := by rw [h4, ← HSf.out]; simp
          have HRp := HRp
          rw [hp] at HRp
          have HP := Lib.hid hp
          clear hp h4
          go_wp2_with ((go_at_call 20; refine HRp.out.mono ?_); rintro e w' ⟨rfl, rfl⟩)
          go_ret
          exact ⟨rfl, HM8.out.toBelow (Nat.le_refl _) (by simp)⟩
        · have hp' : plainL l = false := by simpa using hp
          have HRp := HRp
          rw [hp'] at HRp
          clear hp hp'
          go_wp2_with ((go_at_call 20; refine HRp.out.mono ?_); rintro e w' ⟨rfl, rfl⟩)
          go_ret
          exact ⟨rfl, HM8.out.toBelow (Nat.le_refl _) (by simp)⟩
end Go.Proofs.YthcgnnhfkejglaaDoor
