/- The decoder: NewDecoder, Decode. -/
import Derived.Test.YthcgnnhfkejglaaDoorDtD
namespace Go.Proofs.YthcgnnhfkejglaaDoor
open Go.Shelf Go.ChangeShapes Go.WideShapes Go.ChangeAt Go.RowKit
set_option linter.unusedVariables false
set_option linter.unusedSimpArgs false

theorem Dec.new (w : World) (M : Nat) : Dec (w.alloc (decO 0 0 M (.slice none 0 0) false false false)) w.heap.size (.slice none 0 0) s0 M := by
  refine ⟨heap_alloc_new w _, ?_, Bytes.nil⟩
  have := World.ownsRow_nil (w.alloc (decO 0 0 M (.slice none 0 0) false false false)) 0 5 1
  simpa [s0] using this
theorem newDecoder_any (w : World) (most : Int) (h1 : most ≤ 9223372036854775807) : Calls Tryd.prog 16 #[.int .i64 most] w fun e w' => e = .returned (.pointer (some ⟨w.heap.size, 0, none⟩)) ∧ w' = w.alloc (decO 0 0 most.toNat (.slice none 0 0) false false false) := by
  by_cases h : most < 0
  · have h0 : ((most.toNat : Nat) : Int) = 0 := by omega
    have hm : max most 0 = 0 := by omega
    go_enter Tryd.func16, Tryd.ntmps16
    go_wp2
    go_ret
    refine ⟨rfl, ?_⟩
    unfold decO decC
    rw [h0]
    rfl
  · have h0 : ((most.toNat : Nat) : Int) = most := by omega
    have hm : max most 0 = most := by omega
    go_enter Tryd.func16, Tryd.ntmps16
    go_wp2
    go_ret
    refine ⟨rfl, ?_⟩
    unfold decO decC
    rw [h0]
    rfl
/-- what Decode answers -/
def DecP (l : List Int) (M : Nat) (w : World) (e : Ending) (w' : World) : Prop := ∃ v', e = .returned (.tuple #[.agg (txC v' (feedS s0 l).1.long (feedS s0 l).1.bare (decide (M < (feedS s0 l).1.all.length))), .int .i64 (feedS s0 l).2, .bool (decide ((feedS s0 l).1.st = 5))]) ∧
  w'.ownsRow w.heap.size 5 1 v' ((feedS s0 l).1.all.take M).length (u8s ((feedS s0 l).1.all.take M)) ∧ Below w.heap.size w w'
set_option maxHeartbeats 1000000 in
theorem decode_any (w : World) (most : Int) (h1 : most ≤ 9223372036854775807) (a : Option Addr) (cap : Nat) (l : List Int) (hl : Cells8 w a l) (hll : l.length ≤ 20000) :
    Calls Tryd.prog 13 #[.slice a l.length cap, .int .i64 most] w (DecP l most.toNat w) := by
  have hn0 := heap_alloc_new w (.cells (txC (.slice none 0 0) false false false) 28)
  have hm0 : Mod [] w (w.alloc (.cells (txC (.slice none 0 0) false false false) 28)) := (Mod.refl [] w).alloc _
  have HN0 := Lib.hid hn0
  have HM0 := Lib.hid hm0
  have HL := Lib.hid (hl.mod hm0 (by simp))
  have HA := Lib.hid (show ∀ x, 0 < l.length → a = some x → x.block < w.heap.size by
    intro x hp hx
    obtain ⟨b, o, e, hb⟩ := hl.addr hp
    rw [e] at hx
    cases hx
    exact hb)
  have HSz := Lib.hid (show (w.alloc (.cells (txC (.slice none 0 0) false false false) 28)).heap.size = w.heap.size + 1 by simp)
  clear hn0 hm0 hl
  go_enter Tryd.func13, Tryd.ntmps13
  go_upto_region 1 with (fail)
  generalize w.alloc (.cells (txC (.slice none 0 0) false false false) 28) = w0 at *
  go_wp2_with fail
  refine (newDecoder_any w0 most h1).mono ?_
  rintro e w1 ⟨rfl, rfl⟩
  have hd := Dec.new w0 most.toNat
  have hm1 : Mod [] w0 (w0.alloc (decO 0 0 most.toNat (.slice none 0 0) false false false)) := (Mod.refl [] w0).alloc _
  have HD := Lib.hid hd
  have HM1 := Lib.hid (HM0.out.trans hm1)
  have HN1 := Lib.hid (hm1.row HN0.out (by simp))
  have HF := Lib.hid (feed_any _ w0.heap.size _ s0 most.toNat hd (by omega) (by simp [s0]) a cap l (HL.out.mod hm1 (by simp)) (by intro x hp hx; have := HA.out x hp hx; have := HSz.out; exact ⟨by omega, by simp [Value.ownBlock]⟩) (by simp [s0]; omega) (by simp [s0]; omega))
  clear hd hm1
  go_wp2_with fail
  generalize w0.alloc (decO 0 0 most.toNat (.slice none 0 0) false false false) = w1 at *
  refine HF.out.mono ?_
  rintro e w2 ⟨rfl, v2, hp⟩
  have hbd := feedS_bd l s0 (by simp [s0])
  have hz : s0.all.length = 0 := rfl
  have HT := Lib.hid (text_any w2 w0.heap.size v2 _ most.toNat hp.dec (by omega))
  have hown0 : (Value.slice none 0 0).ownBlock = none := rfl
  have hm2 : Mod [w0.heap.size] w1 w2 := hp.mod.mono (by intro x hx; left; simpa [hown0] using hx)
  have HM2 := Lib.hid hm2
  have HN2 := Lib.hid (hm2.row HN1.out (by have := HSz.out; simp; omega))
  clear hp hbd hz hown0 hm2 HF HD
  generalize hR : feedS s0 l = R at *
  have HRq := Lib.hid hR
  clear hR
  obtain ⟨S, n⟩ := R
  simp only at HT
  generalize hdn : decide (S.st = 5) = dn at *
  have Hdn := Lib.hid hdn
  clear hdn
  generalize hla : decide (most.toNat < S.all.length) = la at *
  have Hla := Lib.hid hla
  clear hla
  generalize hK : S.all.take most.toNat = K at *
  have HK := Lib.hid hK
  clear hK
  generalize hlo : S.long = lo at *
  have Hlo := Lib.hid hlo
  clear hlo
  generalize hba : S.bare = ba at *
  have Hba := Lib.hid hba
  clear hba
  simp only
  go_wp2_with fail
  refine HT.out.mono ?_
  rintro e w3 ⟨v3, rfl, hown, hbl⟩
  have hr := below_blk hbl HN2.out
  obtain ⟨a3, c3, rfl, -, -⟩ := owns_shape hown
  have z0 := blk_free hr 0
  have z1 := blk_free hr 1
  have z2 := blk_free hr 2
  have z3 := blk_free hr 3
  have k0 := blk_cell hr 0
  have k1 := blk_cell hr 1
  have k2 := blk_cell hr 2
  have k3 := blk_cell hr 3
  have HR := Lib.hid hr
  have HO := Lib.hid hown
  have HB := Lib.hid (Mod.ofBelow hbl)
  clear hr hown hbl
  go_wp2_with fail
  have hF := fun (W : World) (u0 u1 u2 u3 : Value) => ((((Mod.refl [w.heap.size] W).setCell (p := ⟨w.heap.size, 0, none⟩) (Or.inl (by simp)) u0).setCell (p := ⟨w.heap.size, 1, none⟩) (Or.inl (by simp)) u1).setCell (p := ⟨w.heap.size, 2, none⟩) (Or.inl (by simp)) u2).setCell (p := ⟨w.heap.size, 3, none⟩) (Or.inl (by simp)) u3
  refine bodyPost_ret (v := .tuple #[.agg (txC (.slice a3 K.length c3) lo ba la), .int .i64 n, .bool dn]) (res_cell_tmp2_row rfl _ _ w.heap.size 28 (txC (.slice a3 K.length c3) lo ba la) (0, 0) _ rfl ?_ Tryd.underlying28 rfl tx_size _ _ rfl rfl) rfl ?_
  · have h4 := blk_set (blk_set (blk_set (blk_set HR.out 0 (.slice a3 K.length c3)) 1 (.bool lo)) 2 (.bool ba)) 3 (.bool la)
    simpa using h4
  unfold DecP
  rw [HRq.out]
  simp only
  rw [Hdn.out, Hla.out, HK.out, Hlo.out, Hba.out]
  refine ⟨.slice a3 K.length c3, rfl, ?_, ?_⟩
  · have h12 := HM2.out.size
    have h01 := HM1.out.size
    have hlt := blk_lt HN1.out
    refine owns_rebase ((hF w3 _ _ _ _).owns HO.out ?_) ?_
    · intro k hk hx
      have := (owns_lt HO.out hk).1
      simp at hx
      omega
    · intro k hk
      have := (owns_lt HO.out hk).1
      omega
  · have h0 := HSz.out
    exact ((((HM1.out.mono (G := [w.heap.size, w0.heap.size]) (by simp)).trans (HM2.out.mono (by simp))).trans (HB.out.mono (by simp))).trans ((hF w3 _ _ _ _).mono (by simp))).toBelow (Nat.le_refl _) (by simp; omega)
end Go.Proofs.YthcgnnhfkejglaaDoor
