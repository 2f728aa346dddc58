/- The disk: bytes put over bytes: over. -/
import Derived.Test.YtfcoaafmjllpfaaVfP
import Derived.Test.YtfcoaafmjllpfaaAppZ
import Derived.Test.YtfcoaafmjllpfaaFld
import Derived.Test.YtfcoaafmjllpfaaReg2
import Derived.Test.YtfcoaafmjllpfaaSl
import Derived.Test.YtfcoaafmjllpfaaChecked
namespace Go.Proofs.Ytfcoaafmjllpfaa
open Go.ChangeShapes Go.WideShapes Go.ChangeAt Go.RowKit
set_option linter.unusedVariables false
set_option linter.unusedSimpArgs false

theorem wpList_copy8 {P : Program} {w : World} {ops : Array Oper} {rest : List Oper} {o : Oper} {a : Act} {Q : Exit → Act → World → Prop} (hgd : o.guard = none) (d s : Operand) (dT sT : TypeId)
    (ho : o.op = .call { callee := .builtin .copy, args := #[d, s], argTypes := #[dT, sT] }) (elem : TypeId) (hu : P.underlying dT = some (.slice elem)) (hsz : (P.info? elem).map (·.size) = some 1)
    (g off dLen dCap : Nat) (ad : Addr) (sLen sCap : Nat) (hd : a.eval d = .slice (some ⟨g, off, none⟩) dLen dCap) (hs : a.eval s = .slice (some ad) sLen sCap)
    (cur : Array Value) (t : TypeId) (hg : w.heap[g]? = some (.cells cur t (0, 0))) (cs : List Value) (hn : cs.length = Nat.min sLen dLen)
    (hsrc : ∀ j v, cs[j]? = some v → w.cell? (ad.add j) = some v) (hfit : off + cs.length ≤ cur.size) (h1 : ∀ v ∈ cs, v.oneCell' = true)
    (h : ∀ w', w'.heap[g]? = some (.cells (splice cur.toList off cs).toArray t (0, 0)) → Mod [g] w w' → wpList P ops Q rest (a.put o.dst (goInt cs.length)) w') : wpList P ops Q (o :: rest) a w := by
  refine wpList_copy_own hgd d s dT sT ho elem hu hsz g off dLen dCap ad sLen sCap hd hs cur t hg cs hn hsrc hfit h1 (h _ (setRow_heap w g _ _ _ _ hg) ?_)
  exact ⟨rfl, rfl, rfl, by simp, fun k hk hg => setRow_other w g k _ (by simpa using hg)⟩
theorem cells8_src {w : World} {b o n : Nat} {x : List Int} (h : Cells8 w (some ⟨b, o, none⟩) x) : ∀ j v, (u8s (x.take n))[j]? = some v → w.cell? ((⟨b, o, none⟩ : Addr).add j) = some v := fun j v hv => by
  have hj := (List.getElem?_eq_some_iff.1 hv).1
  simp only [u8s, List.length_map, List.length_take] at hj
  rw [Addr.add_lit, h.at j (by omega), ← hv]
  simp [u8s, List.getElem?_take, show j < n by omega, List.getD]
  rw [List.getElem?_eq_getElem (by omega)]
  simp
/-- what over leaves -/
structure Over (w : World) (base : Nat) (v : Value) (l' : List Int) (v' : Value) (w' : World) : Prop where
  own : w'.ownsRow base 5 1 v' l'.length (u8s l')
  mod : Mod v.ownBlock.toList w w'
  blk : v'.ownBlock = v.ownBlock ∨ ∃ g, v'.ownBlock = some g ∧ w.heap.size ≤ g
theorem u8size : (Try.prog.info? 5).map (·.size) = some 1 := by kernel_rfl
theorem u8info : (Try.prog.info? 5).map (fun i => (i.zero, i.size, i.bytes)) = some (some (.int .u8 0), 1, 1) := by kernel_rfl
theorem szu8 : ∀ w, (Go.sizeOf 5).run Try.prog w = .ok 1 w := fun w => by kernel_rfl
theorem wpList_zeros8 (w : World) {ops : Array Oper} {rest : List Oper} {o : Oper} {a : Act} {Q : Exit → Act → World → Prop} (hgd : o.guard = none) (s x : Operand)
    (ho : o.op = .call { callee := .builtin .append, args := #[s, x], argTypes := #[22, 3] }) (base : Nat) (v : Value) (l : List Int) (hs : a.eval s = v) (hown : w.ownsRow base 5 1 v l.length (u8s l))
    (mI : Int) (m : Nat) (hmI : mI = (m : Int)) (hx : a.eval x = .int .i64 mI) (hm : 0 < m) (h63 : l.length + m ≤ 9223372036854775807) (hbytes : (l.length + m) * 1 ≤ 140737488355328) (hbase : base ≤ w.heap.size)
    (h : ∀ v' w', w'.ownsRow base 5 1 v' (l ++ List.replicate m 0).length (u8s (l ++ List.replicate m 0)) → Mod v.ownBlock.toList w w' → (v'.ownBlock = v.ownBlock ∨ v'.ownBlock = some w.heap.size) → wpList Try.prog ops Q rest (a.put o.dst v') w') : wpList Try.prog ops Q (o :: rest) a w := by
  obtain ⟨i0, hi1, hi2, hi3, hi4⟩ := info_parts u8info
  refine wpList_append_zeros w hgd s x _ _ ho base 5 i0 (.int .u8 0) 1 Try.underlying22 Try.underlying3 hi1 hi2 hi3 hi4 rfl rfl v l.length (u8s l) hs hown mI m hmI hx hm h63 hbytes hbase ?_
  intro v' w' h1 h2 h3
  refine h v' w' ?_ (Mod.ofGrown h2) h3
  rw [u8s_append, u8s_zeros, List.length_append, List.length_replicate]
  exact h1
set_option maxHeartbeats 2000000 in
theorem over_none (w : World) (k : Int) (wa : Option Addr) (wn wc base : Nat) (v : Value) (l : List Int) (own : w.ownsRow base 5 1 v l.length (u8s l)) :
    Calls Try.prog 57 #[.agg #[.int .i64 k, .slice wa wn wc], v, .int .i64 0] w fun e w' => ∃ v', e = .returned v' ∧ Over w base v l v' w' := by
  go_enter Try.func57, Try.ntmps57
  go_wp2_with fail
  go_ret
  exact ⟨v, rfl, (Mod.alloc (Mod.refl [] w) _).owns own (by simp), ((Mod.refl _ w).alloc _), .inl rfl⟩
set_option maxHeartbeats 4000000 in
theorem over_some (w : World) (k n : Nat) (wa : Option Addr) (wn wc base : Nat) (x : List Int) (hx : Cells8 w wa x) (hwn : wn = x.length) (hwc : wn ≤ wc) (v : Value) (l : List Int) (hl : Bytes l) (own : w.ownsRow base 5 1 v l.length (u8s l))
    (hn0 : 0 < n) (hn : n ≤ x.length) (hk : k ≤ 1000000000) (hxl : x.length ≤ 1000000000) (hll : l.length ≤ 1000000000) (hbase : base ≤ w.heap.size) (hdis : ∀ g, v.ownBlock = some g → g ∉ blocks wa) :
    Calls Try.prog 57 #[.agg #[.int .i64 k, .slice wa wn wc], v, .int .i64 n] w fun e w' => ∃ v', e = .returned v' ∧ Over w base v (overL l k (x.take n)) v' w' := by
  subst hwn
  obtain ⟨b, o, rfl, hbl⟩ := hx.addr (by omega)
  have htl : (x.take n).length = n := by rw [List.length_take]; omega
  have hne : x.take n ≠ [] := by intro h; rw [h] at htl; simp at htl; omega
  have HOV := Lib.hid (overL_ne (l := l) (k := k) hne)
  have HTL := Lib.hid htl
  have hrow := heap_alloc_new w (.cells #[.int .i64 k, .slice (some ⟨b, o, none⟩) x.length wc] 94)
  have hm0 : Mod [] w (w.alloc (.cells #[.int .i64 k, .slice (some ⟨b, o, none⟩) x.length wc] 94)) := (Mod.refl [] w).alloc _
  have HX := Lib.hid (hx.mod hm0 (by simp))
  have HOW := Lib.hid (hm0.owns own (by simp))
  have HROW := Lib.hid hrow
  have HM0 := Lib.hid hm0
  have HBL := Lib.hid hl
  have HDIS := Lib.hid hdis
  have HVL := Lib.hid (fun g hg => (owns_lt own (k := g) hg).2)
  obtain ⟨va, vc, rfl, -, hvc⟩ := owns_shape own
  have HBD := Lib.hid (show k ≤ 1000000000 ∧ x.length ≤ 1000000000 ∧ l.length ≤ 1000000000 from ⟨hk, hxl, hll⟩)
  have hkI : (k : Int) ≤ 1000000000 := by omega
  have hxI : (x.length : Int) ≤ 1000000000 := by omega
  have hlI : (l.length : Int) ≤ 1000000000 := by omega
  have hnI : (n : Int) ≤ (x.length : Int) := by omega
  have hn0I : 0 < (n : Int) := by omega
  clear hx own hrow hm0 htl hne hl hdis hk hxl hll hvc
  by_cases hlk : l.length < k + n
  · have hlk' : (l.length : Int) < (k : Int) + (n : Int) := by omega
    obtain ⟨m, hm⟩ : ∃ m, k + n - l.length = m := ⟨_, rfl⟩
    have hmI : (k : Int) + (n : Int) - (l.length : Int) = (m : Int) := by omega
    have HMM := Lib.hid (show 0 < m ∧ m ≤ 2000000000 by have := HBD.out; omega)
    have hm0 : 0 < (m : Int) := by omega
    have hm1 : (m : Int) ≤ 2000000000 := by have := HBD.out; omega
    have HMK := Lib.hid hm
    have H63 := Lib.hid (show l.length + m ≤ 9223372036854775807 by have := HBD.out; have := HMM.out; omega)
    have H47 := Lib.hid (show (l.length + m) * 1 ≤ 140737488355328 by have := HBD.out; have := HMM.out; omega)
    clear hm hlk
    go_enter Try.func57, Try.ntmps57
    go_wp2_with (at_builtin; refine wpList_zeros8 _ (by rfl) _ _ (by rfl) base (.slice va l.length vc) l rfl HOW.out _ m rfl rfl HMM.out.1 H63.out H47.out (by simp; omega) ?_; intro v1 w1 hown1 hgr1 hblk1)
    obtain ⟨L1, hL1⟩ : ∃ L1, l ++ List.replicate m 0 = L1 := ⟨_, rfl⟩
    rw [hL1] at hown1
    have HL1 := Lib.hid hL1
    clear hL1
    have HRO := Lib.hid (hgr1.row HROW.out (by intro hh; have := HVL.out _ (by simpa using hh); omega))
    have HMA := Lib.hid ((HM0.out.mono (by simp)).trans hgr1)
    have HOA := Lib.hid hown1
    have HBK := Lib.hid (hblk1)
    have HLA := Lib.hid (show k + n ≤ L1.length by have := HMK.out; have := HBD.out; rw [← HL1.out, List.length_append, List.length_replicate]; omega)
    have HXA := Lib.hid (HX.out.mod hgr1 (by intro y hy hh; cases hy; exact HDIS.out b (by simpa using hh) (by simp [blocks])))
    clear hown1 hgr1 hblk1 hmI hm0 hm1 hlk'
    have hown := HOA.out
    obtain ⟨-, hkind⟩ := hown
    rcases hkind with ⟨hnil, hz⟩ | ⟨g1, c1, cur, hv1, hbg, hg, hnc, hcm, hcs, htake⟩
    · exfalso
      have := HLA.out
      omega
    · subst hv1
      have HG := Lib.hid hg
      have HCS := Lib.hid (And.intro hcs (And.intro hnc hcm))
      have HTK := Lib.hid htake
      have k0 := blk_cell HRO.out 0
      have k1 := blk_cell HRO.out 1
      have hs1 := slice_lo1 (P := Try.prog) 22 5 Try.underlying22 szu8 g1 0 L1.length c1 k (by have := HLA.out; omega) (by have := HLA.out; omega) hnc
      rw [Nat.zero_add] at hs1
      have hs2 := slice_hi1 (P := Try.prog) 22 5 Try.underlying22 szu8 b o x.length wc n hn (by omega) hwc
      have HNC := Lib.hid hnc
      have hbg0 := hbg
      have HCN := Lib.hid (show (u8s (x.take n)).length = Nat.min n (L1.length - k) by
        have := HLA.out
        have e : (u8s (x.take n)).length = n := by simp only [u8s, List.length_map, HTL.out]
        rw [e]
        exact (Nat.min_eq_left (by omega)).symm)
      have HFIT := Lib.hid (show k + (u8s (x.take n)).length ≤ cur.size by have := HLA.out; simp only [u8s, List.length_map, HTL.out]; omega)
      have HSRC := Lib.hid (cells8_src (n := n) (HXA.out.mod ((Mod.refl [] w1).drew) (by simp)))
      have HONE := Lib.hid (show ∀ v ∈ u8s (x.take n), v.oneCell' = true from fun v hv => by obtain ⟨_, _, rfl⟩ := List.mem_map.1 hv; rfl)
      clear hbg hg hnc hcm hcs htake hkI hxI hlI hnI hn0I
      refine wp_region_quiet_tail 8 (by kernel_rfl) (by kernel_rfl) ?_
      simp only [List.take_succ_cons, List.take_zero, List.drop_succ_cons, List.drop_zero]
      repeat (go_big_quiet_step (fail))
      refine wpQuiet_nil ?_
      (refine wpList_copy8 (by rfl) _ _ _ _ (by rfl) 5 Try.underlying22 u8size g1 k _ _ ⟨b, o, none⟩ n wc rfl rfl cur 5 (blk_drew HG.out) (u8s (x.take n)) HCN.out HSRC.out HFIT.out HONE.out ?_; intro w2 hw2 hm2)
      have HW2 := Lib.hid hw2
      have HM2 := Lib.hid hm2
      have HBG := Lib.hid hbg0
      clear hw2 hm2 hbg0 k0 k1 hs1 hs2
      go_wp2_with fail
      go_ret
      have hov : overL l k (x.take n) = splice L1 k (x.take n) := by rw [HOV.out, HTL.out, HMK.out, HL1.out]
      have hln : (splice L1 k (x.take n)).length = L1.length := length_splice _ _ _ (by rw [HTL.out]; exact HLA.out)
      rw [hov]
      have hg1w : g1 ∈ (Value.slice va l.length vc).ownBlock.toList ∨ w.heap.size ≤ g1 := by
        rcases HBK.out with h | h
        · left; rw [← h]; simp [Value.ownBlock]
        · right; simp [Value.ownBlock] at h; omega
      have hown2 : w2.ownsRow base 5 1 (.slice (some ⟨g1, 0, none⟩) L1.length c1) L1.length (u8s (splice L1 k (x.take n))) := by
        refine ⟨by rw [u8s, List.length_map, hln, Nat.mul_one], .inr ⟨g1, c1, _, rfl, HBG.out, HW2.out, HCS.out.2.1, HCS.out.2.2, ?_, ?_⟩⟩
        · rw [List.size_toArray, length_splice _ _ _ (by have := HFIT.out; simpa using this), Array.length_toList]; exact HCS.out.1
        · have htk := HTK.out
          rw [Nat.mul_one] at htk ⊢
          have hsz := HCS.out.1
          rw [Nat.mul_one] at hsz
          have := HCS.out.2.1
          rw [show (splice cur.toList k (u8s (x.take n))).toArray.toList = splice cur.toList k (u8s (x.take n)) from rfl, splice_take _ _ _ _ (by simp only [u8s, List.length_map, HTL.out]; exact HLA.out) (by rw [show cur.toList.length = cur.size from Array.length_toList]; omega), htk, u8s_splice]
      refine ⟨_, rfl, by rw [hln]; exact hown2, ?_, ?_⟩
      · exact HMA.out.drew.trans' HM2.out (fun y hy => by simp at hy; subst hy; exact hg1w)
      · rcases HBK.out with h | h
        · left; exact h
        · right; exact ⟨_, h, by simp⟩
  · have hlk' : (k : Int) + (n : Int) ≤ (l.length : Int) := by omega
    go_enter Try.func57, Try.ntmps57
    go_wp2_with fail
    have HRO := Lib.hid (HROW.out)
    have HMA := Lib.hid (HM0.out.mono (G := (Value.slice va l.length vc).ownBlock.toList) (by simp))
    have HOA := HOW
    have HBK := Lib.hid (show (Value.slice va l.length vc).ownBlock = (Value.slice va l.length vc).ownBlock ∨ (Value.slice va l.length vc).ownBlock = some (w.alloc (.cells #[.int .i64 k, .slice (some ⟨b, o, none⟩) x.length wc] 94)).heap.size from Or.inl rfl)
    have HLA := Lib.hid (show k + n ≤ l.length by omega)
    have HXA := Lib.hid (HX.out)
    clear hlk hlk'
    have hown := HOA.out
    obtain ⟨-, hkind⟩ := hown
    rcases hkind with ⟨hnil, hz⟩ | ⟨g1, c1, cur, hv1, hbg, hg, hnc, hcm, hcs, htake⟩
    · exfalso
      have := HLA.out
      omega
    · cases hv1
      have HG := Lib.hid hg
      have HCS := Lib.hid (And.intro hcs (And.intro hnc hcm))
      have HTK := Lib.hid htake
      have k0 := blk_cell HRO.out 0
      have k1 := blk_cell HRO.out 1
      have hs1 := slice_lo1 (P := Try.prog) 22 5 Try.underlying22 szu8 g1 0 l.length vc k (by have := HLA.out; omega) (by have := HLA.out; omega) hnc
      rw [Nat.zero_add] at hs1
      have hs2 := slice_hi1 (P := Try.prog) 22 5 Try.underlying22 szu8 b o x.length wc n hn (by omega) hwc
      have HNC := Lib.hid hnc
      have hbg0 := hbg
      have HCN := Lib.hid (show (u8s (x.take n)).length = Nat.min n (l.length - k) by
        have := HLA.out
        have e : (u8s (x.take n)).length = n := by simp only [u8s, List.length_map, HTL.out]
        rw [e]
        exact (Nat.min_eq_left (by omega)).symm)
      have HFIT := Lib.hid (show k + (u8s (x.take n)).length ≤ cur.size by have := HLA.out; simp only [u8s, List.length_map, HTL.out]; omega)
      have HSRC := Lib.hid (cells8_src (n := n) (HXA.out.mod ((Mod.refl [] (w.alloc (.cells #[.int .i64 k, .slice (some ⟨b, o, none⟩) x.length wc] 94))).drew) (by simp)))
      have HONE := Lib.hid (show ∀ v ∈ u8s (x.take n), v.oneCell' = true from fun v hv => by obtain ⟨_, _, rfl⟩ := List.mem_map.1 hv; rfl)
      clear hbg hg hnc hcm hcs htake hkI hxI hlI hnI hn0I
      refine wp_region_quiet_tail 8 (by kernel_rfl) (by kernel_rfl) ?_
      simp only [List.take_succ_cons, List.take_zero, List.drop_succ_cons, List.drop_zero]
      repeat (go_big_quiet_step (fail))
      refine wpQuiet_nil ?_
      (refine wpList_copy8 (by rfl) _ _ _ _ (by rfl) 5 Try.underlying22 u8size g1 k _ _ ⟨b, o, none⟩ n wc rfl rfl cur 5 (blk_drew HG.out) (u8s (x.take n)) HCN.out HSRC.out HFIT.out HONE.out ?_; intro w2 hw2 hm2)
      have HW2 := Lib.hid hw2
      have HM2 := Lib.hid hm2
      have HBG := Lib.hid hbg0
      clear hw2 hm2 hbg0 k0 k1 hs1 hs2
      go_wp2_with fail
      go_ret
      have hov : overL l k (x.take n) = splice l k (x.take n) := by rw [HOV.out, HTL.out, show k + n - l.length = 0 by have := HLA.out; omega, List.replicate_zero, List.append_nil]
      have hln : (splice l k (x.take n)).length = l.length := length_splice _ _ _ (by rw [HTL.out]; exact HLA.out)
      rw [hov]
      have hg1w : g1 ∈ (Value.slice (some ⟨g1, 0, none⟩) l.length vc).ownBlock.toList ∨ w.heap.size ≤ g1 := Or.inl (by simp [Value.ownBlock])
      have hown2 : w2.ownsRow base 5 1 (.slice (some ⟨g1, 0, none⟩) l.length vc) l.length (u8s (splice l k (x.take n))) := by
        refine ⟨by rw [u8s, List.length_map, hln, Nat.mul_one], .inr ⟨g1, vc, _, rfl, HBG.out, HW2.out, HCS.out.2.1, HCS.out.2.2, ?_, ?_⟩⟩
        · rw [List.size_toArray, length_splice _ _ _ (by have := HFIT.out; simpa using this), Array.length_toList]; exact HCS.out.1
        · have htk := HTK.out
          rw [Nat.mul_one] at htk ⊢
          have hsz := HCS.out.1
          rw [Nat.mul_one] at hsz
          have := HCS.out.2.1
          rw [show (splice cur.toList k (u8s (x.take n))).toArray.toList = splice cur.toList k (u8s (x.take n)) from rfl, splice_take _ _ _ _ (by simp only [u8s, List.length_map, HTL.out]; exact HLA.out) (by rw [show cur.toList.length = cur.size from Array.length_toList]; omega), htk, u8s_splice]
      refine ⟨_, rfl, by rw [hln]; exact hown2, ?_, ?_⟩
      · exact HMA.out.drew.trans' HM2.out (fun y hy => by simp at hy; subst hy; exact hg1w)
      · exact Or.inl rfl
end Go.Proofs.Ytfcoaafmjllpfaa
