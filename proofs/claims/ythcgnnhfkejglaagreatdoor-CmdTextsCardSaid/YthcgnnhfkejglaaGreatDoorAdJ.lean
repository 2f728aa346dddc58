import Derived.Test.YthcgnnhfkejglaaGreatDoorAdI
/- The reader: mailbox. -/
namespace Go.Proofs.YthcgnnhfkejglaaGreatDoor
open Go.Shelf Go.ChangeShapes Go.WideShapes Go.ChangeAt Go.RowKit
set_option linter.unusedVariables false
set_option linter.unusedSimpArgs false

abbrev adCs (a d : ByteArray) : Array Value := #[.string a, .string d]
theorem addr_size : (Tryz.prog.info? 23).map (·.size) = some 2 := by kernel_rfl
theorem res_addr {fn : Func} {p u : Tmp} (h : fn.results = #[.cell p 23, .tmp u]) (tmps : Array Value) (w : World) (g : Nat) (t : TypeId) (cs : Array Value) (fr : Nat × Nat)
    (hp : tmps.getD p undef = .pointer (some ⟨g, 0, none⟩)) (hg : w.heap[g]? = some (.cells cs t fr)) (hs : cs.size = 2) (v : Value) (hv : tmps.getD u undef = v) :
    (results fn tmps).run Tryz.prog w = .ok (.tuple #[.agg cs, v]) w :=
  res_cell_tmp_row h tmps w g t cs fr _ hp hg Tryz.underlying23 rfl (by rw [hs]; exact addr_size) v hv

def MbP (rb : Nat) (s : ByteArray) (i : Nat) (g : Bool) (w : World) (e : Ending) (w' : World) : Prop :=
  ∃ ok A D j h, e = .returned (.tuple #[.agg (adCs (strOfNums A) (strOfNums D)), .bool ok]) ∧ RD w' rb s j h ∧ i ≤ j ∧ j ≤ s.size ∧ Mod [rb] w w' ∧ Bytes A ∧ Bytes D ∧ A.length ≤ s.size ∧ D.length ≤ s.size ∧
    (ok = true → ∃ n d, mbL ((nums s).drop i) = some (A, n, d) ∧ j = i + n + 1 + d ∧ D = ((nums s).drop (i + n + 1)).take d ∧ h = (g || decide (64 < A.length) || decide (64 < d))) ∧ (ok = false → mbL ((nums s).drop i) = none)

theorem mbL_local {t : List Int} (h : locL t = none) : mbL t = none := by simp [mbL, h]
theorem mbL_at {t A : List Int} {n : Nat} (h : locL t = some (A, n)) (h2 : (t[n]? == some 64) = false) : mbL t = none := by
  have : ¬ t[n]? = some 64 := by intro e; rw [e] at h2; simp at h2
  simp [mbL, h, this]
theorem mbL_dom {t A : List Int} {n : Nat} (h : locL t = some (A, n)) (h2 : (t[n]? == some 64) = true) : mbL t = (domN (t.drop (n + 1))).map fun d => (A, n, d) := by
  have : t[n]? = some 64 := by simpa using h2
  simp [mbL, h, this]

set_option maxHeartbeats 4000000 in
theorem mailbox_any (rb : Nat) (s : ByteArray) (i : Nat) (g : Bool) (w : World) (h : RD w rb s i g) (hs : s.size ≤ 100000) (ha : i ≤ s.size) :
    Calls Tryz.prog 86 #[.pointer (some ⟨rb, 0, none⟩)] w (MbP rb s i g w) := by
  have H := Lib.hid h
  have hlt := h.lt
  clear h
  have HN := Lib.hid (heap_alloc_new w (.cells (adCs ⟨#[]⟩ ⟨#[]⟩) 23))
  have HM0 : Hid (Mod [] w (w.alloc (.cells (adCs ⟨#[]⟩ ⟨#[]⟩) 23))) := Lib.hid ((Mod.refl [] w).alloc _)
  have HL := Lib.hid (local_any rb s i g _ (H.out.quiet HM0.out) hs ha)
  go_enter Tryz.func86, Tryz.ntmps86
  go_wp2_with fail
  refine HL.out.mono ?_
  rintro e w1 ⟨ok, A, j, rfl, hr1, hij, hjs, hTb, hTl, ht1, ht2, hm1⟩
  have hr : rb ≠ w.heap.size := by omega
  have HR1 := Lib.hid hr1
  have HT1 := Lib.hid ht1
  have HT2 := Lib.hid ht2
  have HN1 := Lib.hid (hm1.row HN.out (by simp; omega))
  have HM1 := Lib.hid ((HM0.out.mono (by simp)).trans hm1)
  have k0 := blk_cell HN1.out 0
  have k1 := blk_cell HN1.out 1
  have z0 := blk_free HN1.out 0
  have z1 := blk_free HN1.out 1
  clear hr1 ht1 ht2 hm1 HL HN
  cases ok
  · go_wp2_with fail
    have hn := HT2.out trivial
    exact bodyPost_ret (v := .tuple #[.agg (adCs (strOfNums []) (strOfNums [])), .bool false]) (res_addr rfl _ _ w.heap.size _ _ (0, 0) rfl (blk_store2 HN1.out rfl _ _) rfl _ rfl) rfl
      ⟨false, [], [], j, _, rfl, HR1.out.mod (mod_store2 _ _) (by simp; exact hr), hij, hjs, HM1.out.trans' (mod_store2 _ _) (by intro x hx; simp at hx; omega), Bytes.nil, Bytes.nil, by simp, by simp, by simp, fun _ => mbL_local hn⟩
  · have hl := HT1.out rfl
    have HLc := Lib.hid hl
    clear hl HT1 HT2
    have HP := Lib.hid (pass_any 64 rb s j _ w1 HR1.out hs hjs)
    have hidx : ((nums s).drop i)[j - i]? = (nums s)[j]? := by rw [List.getElem?_drop]; congr 1; omega
    have HI := Lib.hid hidx
    clear hidx
    go_wp2_with fail
    refine HP.out.mono ?_
    rintro e w2 ⟨rfl, hr2, hm2⟩
    generalize hq : ((nums s)[j]? == some 64) = q at *
    have HQ := Lib.hid hq
    have HR2 := Lib.hid hr2
    have HM2 := Lib.hid (HM1.out.trans hm2)
    have HN2 := Lib.hid (hm2.row HN1.out (by simp; omega))
    clear hq hr2 hm2 HP k0 k1 z0 z1
    have k0 := blk_cell HN2.out 0
    have k1 := blk_cell HN2.out 1
    have z0 := blk_free HN2.out 0
    have z1 := blk_free HN2.out 1
    clear HN1 HM1
    cases q
    · go_wp2_with fail
      have hn := mbL_at HLc.out (by rw [HI.out]; exact HQ.out)
      exact bodyPost_ret (v := .tuple #[.agg (adCs (strOfNums []) (strOfNums [])), .bool false]) (res_addr rfl _ _ w.heap.size _ _ (0, 0) rfl (blk_store2 HN2.out rfl _ _) rfl _ rfl) rfl
        ⟨false, [], [], j, _, rfl, by simpa using HR2.out.mod (mod_store2 _ _) (by simp; exact hr), hij, hjs, HM2.out.trans' (mod_store2 _ _) (by intro x hx; simp at hx; omega), Bytes.nil, Bytes.nil, by simp, by simp, by simp, fun _ => hn⟩
    · have hj1 : j + 1 ≤ s.size := by have := (getD_at (by simpa using HQ.out)).1; rw [nums_length] at this; omega
      have HR2' := Lib.hid (show RD w2 rb s (j + 1) (g || decide (64 < A.length)) by simpa using HR2.out)
      obtain ⟨j1, hj1e⟩ : ∃ j1, j1 = j + 1 := ⟨_, rfl⟩
      rw [← hj1e] at hj1 HR2'
      have HJ := Lib.hid hj1e
      have hjj : j ≤ j1 := by omega
      clear hj1e
      have k2 := HR2'.out.c1
      have HD := Lib.hid (domain_any rb s j1 _ w2 HR2'.out hs hj1)
      have HMb := Lib.hid (mbL_dom HLc.out (by rw [HI.out]; exact HQ.out))
      clear HR2
      go_wp2_with fail
      refine HD.out.mono ?_
      rintro e w3 ⟨ok, j3, rfl, hr3, hj3, hjs3, hsp, hm3⟩
      have HR3 := Lib.hid hr3
      have HSp := Lib.hid hsp.labels
      have HM3 := Lib.hid (HM2.out.trans hm3)
      have HN3 := Lib.hid (hm3.row HN2.out (by simp; omega))
      have hdd : ((nums s).drop i).drop (j - i + 1) = (nums s).drop j1 := by rw [List.drop_drop]; congr 1; have := HJ.out; omega
      have HDD := Lib.hid hdd
      clear hr3 hsp hm3 HD HN2 HM2 k0 k1 z0 z1 k2 hdd
      have k0 := blk_cell HN3.out 0
      have k1 := blk_cell HN3.out 1
      have z0 := blk_free HN3.out 0
      have z1 := blk_free HN3.out 1
      have k2 := HR3.out.c0
      have k3 := HR3.out.c1
      cases ok
      · go_wp2_with fail
        have hn : mbL ((nums s).drop i) = none := by rw [HMb.out, HDD.out, HSp.out.2.2 (by trivial)]; rfl
        exact bodyPost_ret (v := .tuple #[.agg (adCs (strOfNums []) (strOfNums [])), .bool false]) (res_addr rfl _ _ w.heap.size _ _ (0, 0) rfl (blk_store2 HN3.out rfl _ _) rfl _ rfl) rfl
          ⟨false, [], [], j3, _, rfl, HR3.out.mod (mod_store2 _ _) (by simp; exact hr), by omega, hjs3, HM3.out.trans' (mod_store2 _ _) (by intro x hx; simp at hx; omega), Bytes.nil, Bytes.nil, by simp, by simp, by simp, fun _ => hn⟩
      · go_wp2_with fail
        have hI1 : (j1 : Int) ≤ (j3 : Int) := by omega
        have hI2 : (j3 : Int) ≤ (s.size : Int) := by omega
        have hTl2 : (((nums s).drop j1).take (j3 - j1)).length = j3 - j1 := by rw [List.length_take, List.length_drop, nums_length]; omega
        have hTb2 : Bytes (((nums s).drop j1).take (j3 - j1)) := ((nums_bytes s).drop _).take _
        have hex := extract_nums s j1 j3
        generalize hTT : ((nums s).drop j1).take (j3 - j1) = D at hTl2 hTb2 hex
        have HTT := Lib.hid hTT
        have HTl2 := Lib.hid hTl2
        have HC := Lib.hid (clone_any (strOfNums D) w3.drew (by rw [strOfNums_size, hTl2]; omega))
        rw [← hex] at HC
        have HEx := Lib.hid hex
        have ne1 : ¬ rb = w.heap.size := hr
        have ne2 : ¬ w.heap.size = rb := fun e => hr e.symm
        clear hTT hTl2 hex
        go_region_held3 (fun W => W.cell? ⟨rb, 0, none⟩ = some (.string s) ∧ W.cell? ⟨rb, 1, none⟩ = some (.int .i64 j3)) ((go_keep)) ((go_at_call 47; refine HC.out.mono ?_; rintro e w4 ⟨rfl, hb4⟩; have hmb : Mod [] w3 w4 := (Mod.refl [] w3).drew.trans (Mod.ofBelow hb4); have HR4 := Lib.hid (HR3.out.quiet hmb); have HM4 := Lib.hid (HM3.out.trans (hmb.mono (by simp))); have HN4 := Lib.hid (hmb.row HN3.out (by simp)); clear k0 k1 z0 z1 k2 k3 hb4 hmb HC; have k0 := blk_cell HN4.out 0; have k1 := blk_cell HN4.out 1; have z0 := blk_free HN4.out 0; have z1 := blk_free HN4.out 1; have k2 := HR4.out.c0; have k3 := HR4.out.c1))
        go_wp2_with fail
        rw [HEx.out]
        refine bodyPost_ret (v := .tuple #[.agg (adCs (strOfNums A) (strOfNums D)), .bool true]) (res_addr rfl _ _ w.heap.size _ _ (0, 0) rfl (blk_store2 HN4.out rfl _ _) rfl _ rfl) rfl
          ⟨true, A, D, j3, _, rfl, HR4.out.mod (mod_store2 _ _) (by simp; exact hr), by omega, hjs3, HM4.out.trans' (mod_store2 _ _) (by intro x hx; simp at hx; omega), hTb, hTb2, hTl, by rw [HTl2.out]; omega, fun _ => ?_, by simp⟩
        refine ⟨j - i, j3 - j1, ?_, by have := HJ.out; omega, ?_, rfl⟩
        · rw [HMb.out, HDD.out, HSp.out.2.1 (by trivial)]; rfl
        · rw [← HTT.out]
          have : i + (j - i) + 1 = j1 := by have := HJ.out; omega
          rw [this]
end Go.Proofs.YthcgnnhfkejglaaGreatDoor

