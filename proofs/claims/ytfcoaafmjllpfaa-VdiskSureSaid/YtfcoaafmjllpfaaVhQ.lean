import Derived.Test.YtfcoaafmjllpfaaVhK
/- The document's disk: Name, SyncDir, Unlink, Rename, Append, Pwrite. -/
namespace Go.Proofs.Ytfcoaafmjllpfaa
open Go.Shelf Go.ChangeShapes Go.WideShapes Go.ChangeAt Go.RowKit
set_option linter.unusedVariables false
set_option linter.unusedSimpArgs false

def IsBool (e : Ending) : Prop := ∃ b, e = .returned (.bool b)
set_option maxHeartbeats 4000000 in
theorem name_r (s : ByteArray) (w : World) (hs : s.size ≤ 1000000000) : Calls Try.prog 32 #[.string s] w fun e w' => IsBool e ∧ w' = w := by
  go_enter Try.func32, Try.ntmps32
  by_cases h0 : (s.size : Int) < 1
  · go_wp2_with fail
    go_ret
    exact ⟨⟨_, rfl⟩, rfl⟩
  · by_cases h32 : 32 < (s.size : Int)
    · go_wp2_with fail
      go_ret
      exact ⟨⟨_, rfl⟩, rfl⟩
    · go_wp2_with fail
      go_loop [3] (fun v => ∃ i : Nat, v = .int .i64 i ∧ i ≤ s.size) (fun v => s.size - (intOf v).toNat)
      case atStart => exact ⟨0, rfl, Nat.zero_le _⟩
      case round =>
        obtain ⟨i, rfl, hi⟩ := hrel
        by_cases hlt : i < s.size
        · generalize hb : ((s[i].toNat : Nat) : Int) = c at *
          rcases (by omega : c < 45 ∨ c = 45 ∨ c = 46 ∨ c = 47 ∨ (48 ≤ c ∧ c ≤ 57) ∨ (57 < c ∧ c < 97) ∨ (97 ≤ c ∧ c ≤ 122) ∨ 122 < c) with h | h | h | h | h | h | h | h
          all_goals
            have t1 : (c == 46) = false ∨ (c == 46) = true := by cases (c == 46) <;> simp
            have t2 : (c == 45) = false ∨ (c == 45) = true := by cases (c == 45) <;> simp
            rcases t1 with t1 | t1 <;> rcases t2 with t2 | t2
            all_goals
              try obtain ⟨g1, g2⟩ := h
              first | (exfalso; simp at t1 t2; omega) | skip
          all_goals go_wp2_with fail
          all_goals first
            | (go_ret; exact ⟨⟨_, rfl⟩, rfl⟩)
            | (go_round
               case rel => exact ⟨i + 1, by go_num, by omega⟩
               case measure => simp [intOf]; omega)
        · have he : i = s.size := by omega
          subst he
          go_wp2_with fail
          go_ret
          exact ⟨⟨_, rfl⟩, rfl⟩

/-- what a call of such a disk leaves: a code, and a disk again -/
def GoodP (N : Nat) (w : World) (m : Nat) (e : Ending) (w' : World) : Prop := (∃ c, e = .returned (.int .i64 c)) ∧ (∃ r' fs' now' tn' tc', RDat N w' m r' fs' now' tn' tc') ∧ Mod [m] w w'
theorem RDat.rewait {N : Nat} {w w' : World} {m : Nat} {r : RdV} {fs : List FileR} {now : EntL} {tn : Nat} {tc : List Value} (h : RDat N w m r fs now tn tc) (hm : Mod [m] w w') (r' : RdV) (e1 : r'.fv = r.fv) (e2 : r'.nv = r.nv) (e3 : ∃ a n c, r'.sv = .slice a n c) (e4 : r'.tv = .slice none 0 0) (hr : w'.heap[m]? = some (.cells (rdC r') 74 (0, 0))) : RDat N w' m r' fs now 0 [] := by
  have hno : ∀ {t : TypeId}, 74 ≠ t → ∀ q ∈ [m], ¬ IsT t w q := fun hne q hq => by
    rw [List.mem_singleton.1 hq]; exact h.isM.ne hne
  exact ⟨hr, by rw [e1]; exact h.files.mod hm (hno (by decide)), fun f hf => ⟨(h.each f hf).wr.mod hm (hno (by decide)), (h.each f hf).wn, (h.each f hf).sz⟩, by rw [e2]; exact RowC.mod h.ents hm (hno (by decide)), by rw [e4]; exact RowC.nil _ _ _, e3, h.lf, h.ln, Nat.zero_le _, h.idx⟩
section
variable {N : Nat} {w : World} {m : Nat} {r : RdV} {fs : List FileR} {now : EntL} {tn : Nat} {tc : List Value}
set_option maxHeartbeats 4000000 in
theorem syncDir_r (h : RDat N w m r fs now tn tc) : Calls Try.prog 43 #[.pointer (some ⟨m, 0, none⟩)] w (GoodP (N + 1) w m) := by
  have HB := Lib.hid (begin_r N w m r fs now tn tc h)
  unfold BegP at HB
  unfold GoodP
  go_enter Try.func43, Try.ntmps43
  go_wp2_with fail
  refine HB.out.mono ?_
  rintro e w1 ⟨c, r', rfl, -, hD, hm⟩
  have HD := Lib.hid hD
  have HM := Lib.hid hm
  clear hm
  by_cases hc : c = 0
  · subst hc
    obtain ⟨fv, nv, sv, tv, cap, dn, calls, fa, cr, er⟩ := r'
    obtain ⟨na, ncp, hnv, -⟩ := hD.ents.shape
    simp only at hnv
    subst hnv
    have k1 : w1.cell? ⟨m, 1, none⟩ = some (.slice na now.length ncp) := blk_cell hD.row 1
    have k2 : w1.cell? ⟨m, 2, none⟩ = some sv := blk_cell hD.row 2
    have z2 := blk_free hD.row 2
    have HR1 := Lib.hid (blk_set hD.row 2 (.slice na now.length ncp))
    have k3 : (w1.setCell ⟨m, 2, none⟩ (.slice na now.length ncp)).cell? ⟨m, 3, none⟩ = some tv := blk_cell HR1.out 3
    have z3 := blk_free HR1.out 3
    have HR2 := Lib.hid (blk_set HR1.out 3 (.slice none 0 0))
    clear hD
    go_wp2_with fail
    go_ret
    have hm2 := (mod_set w1 m 2 (.slice na now.length ncp)).trans (mod_set (w1.setCell ⟨m, 2, none⟩ (.slice na now.length ncp)) m 3 (.slice none 0 0))
    exact ⟨⟨_, rfl⟩, ⟨_, _, _, _, _, (HD.out.rewait hm2 ⟨fv, .slice na now.length ncp, .slice na now.length ncp, .slice none 0 0, cap, dn, calls, fa, cr, er⟩ rfl rfl ⟨_, _, _, rfl⟩ rfl HR2.out).mono (Nat.le_succ N)⟩, HM.out.trans hm2⟩
  · have hc' : (c == 0) = false := by simpa using hc
    clear hD
    go_wp2_with fail
    go_ret
    exact ⟨⟨_, rfl⟩, ⟨_, _, _, _, _, HD.out.mono (Nat.le_succ N)⟩, HM.out⟩
set_option maxHeartbeats 4000000 in
theorem unlink_r (h : RDat N w m r fs now tn tc) (hN : N ≤ 4000) (s : ByteArray) : Calls Try.prog 42 #[.pointer (some ⟨m, 0, none⟩), .string s] w (GoodP (N + 1) w m) := by
  have HB := Lib.hid (begin_r N w m r fs now tn tc h)
  unfold BegP at HB
  unfold GoodP
  go_enter Try.func42, Try.ntmps42
  go_wp2_with fail
  refine HB.out.mono ?_
  rintro e w1 ⟨c, r', rfl, -, hD, hm⟩
  have HD := Lib.hid hD
  have HM := Lib.hid hm
  have HF := Lib.hid (findM_r hD (by omega) s)
  have HT := Lib.hid (turn_r hD (by omega) s ByteArray.empty (-1) (by omega))
  clear hm hD
  generalize findR now s = k at *
  by_cases hc : c = 0
  · subst hc
    go_wp2_with fail
    refine HF.out.mono ?_
    rintro e w2 ⟨rfl, rfl⟩
    by_cases hk : k < 0
    · go_wp2_with fail
      go_ret
      exact ⟨⟨_, rfl⟩, ⟨_, _, _, _, _, HD.out.mono (Nat.le_succ N)⟩, HM.out⟩
    · go_wp2_with fail
      refine HT.out.mono ?_
      rintro e w3 ⟨rfl, ⟨r3, fs3, now3, tn3, tc3, hr3, -⟩, hm3⟩
      have HR3 := Lib.hid hr3
      have HM3 := Lib.hid hm3
      clear hr3 hm3
      go_wp2_with fail
      go_ret
      exact ⟨⟨_, rfl⟩, ⟨_, _, _, _, _, HR3.out⟩, HM.out.trans HM3.out⟩
  · have hc' : (c == 0) = false := by simpa using hc
    go_wp2_with fail
    go_ret
    exact ⟨⟨_, rfl⟩, ⟨_, _, _, _, _, HD.out.mono (Nat.le_succ N)⟩, HM.out⟩
set_option maxHeartbeats 4000000 in
theorem rename_r (h : RDat N w m r fs now tn tc) (hN : N ≤ 4000) (s t : ByteArray) (ht : t.size ≤ 1000000000) : Calls Try.prog 40 #[.pointer (some ⟨m, 0, none⟩), .string s, .string t] w (GoodP (N + 1) w m) := by
  have HB := Lib.hid (begin_r N w m r fs now tn tc h)
  unfold BegP at HB
  unfold GoodP
  go_enter Try.func40, Try.ntmps40
  go_wp2_with fail
  refine HB.out.mono ?_
  rintro e w1 ⟨c, r', rfl, -, hD, hm⟩
  have HD := Lib.hid hD
  have HM := Lib.hid hm
  have HN := Lib.hid (name_r t w1 ht)
  unfold IsBool at HN
  have HF := Lib.hid (findM_r hD (by omega) s)
  have HT := Lib.hid (turn_r hD (by omega) s t (-1) (by omega))
  clear hm hD
  generalize findR now s = k at *
  by_cases hc : c = 0
  · subst hc
    go_wp2_with fail
    refine HN.out.mono ?_
    rintro e w2 ⟨⟨b, rfl⟩, rfl⟩
    cases b
    · go_wp2_with fail
      go_ret
      exact ⟨⟨_, rfl⟩, ⟨_, _, _, _, _, HD.out.mono (Nat.le_succ N)⟩, HM.out⟩
    · go_wp2_with fail
      refine HF.out.mono ?_
      rintro e w2 ⟨rfl, rfl⟩
      by_cases hk : k < 0
      · go_wp2_with fail
        go_ret
        exact ⟨⟨_, rfl⟩, ⟨_, _, _, _, _, HD.out.mono (Nat.le_succ N)⟩, HM.out⟩
      · go_wp2_with fail
        refine HT.out.mono ?_
        rintro e w3 ⟨rfl, ⟨r3, fs3, now3, tn3, tc3, hr3, -⟩, hm3⟩
        have HR3 := Lib.hid hr3
        have HM3 := Lib.hid hm3
        clear hr3 hm3
        go_wp2_with fail
        go_ret
        exact ⟨⟨_, rfl⟩, ⟨_, _, _, _, _, HR3.out⟩, HM.out.trans HM3.out⟩
  · have hc' : (c == 0) = false := by simpa using hc
    go_wp2_with fail
    go_ret
    exact ⟨⟨_, rfl⟩, ⟨_, _, _, _, _, HD.out.mono (Nat.le_succ N)⟩, HM.out⟩
end
end Go.Proofs.Ytfcoaafmjllpfaa

/- The document's disk: Append, Pwrite. -/
namespace Go.Proofs.Ytfcoaafmjllpfaa
open Go.Shelf Go.ChangeShapes Go.WideShapes Go.ChangeAt Go.RowKit
set_option linter.unusedVariables false
set_option linter.unusedSimpArgs false
section
variable {N : Nat} {w : World} {m : Nat} {r : RdV} {fs : List FileR} {now : EntL} {tn : Nat} {tc : List Value}
set_option maxRecDepth 100000 in
set_option maxHeartbeats 4000000 in
theorem append_r (h : RDat N w m r fs now tn tc) (hN : N ≤ 4000) (s : ByteArray) (ba : Option Addr) (bn bc : Nat) (xs : List Int) (hx : Cells8 w ba xs) (hxm : xs ≠ [] → ∀ x, ba = some x → x.block ≠ m) (hbn : bn = xs.length) (hxl : xs.length ≤ 100) :
    Calls Try.prog 36 #[.pointer (some ⟨m, 0, none⟩), .string s, .slice ba bn bc] w (GoodP (N + 1) w m) := by
  subst hbn
  have HB := Lib.hid (begin_r N w m r fs now tn tc h)
  unfold BegP at HB
  unfold GoodP
  go_enter Try.func36, Try.ntmps36
  go_wp2_with fail
  refine HB.out.mono ?_
  rintro e w1 ⟨c, r', rfl, -, hD, hm⟩
  have HD := Lib.hid hD
  have HM := Lib.hid hm
  have HF := Lib.hid (findM_r hD (by omega) s)
  have HX := Lib.hid (show Cells8 w1 ba xs from Cells8.mod2 hm hx (fun h0 x hx0 => by simpa using hxm h0 x hx0))
  clear hm
  by_cases hc : c = 0
  · subst hc
    by_cases hk : findR now s < 0
    · generalize findR now s = k at *
      clear hD
      go_wp2_with fail
      refine HF.out.mono ?_
      rintro e w2 ⟨rfl, rfl⟩
      go_wp2_with fail
      go_ret
      exact ⟨⟨_, rfl⟩, ⟨_, _, _, _, _, HD.out.mono (Nat.le_succ N)⟩, HM.out⟩
    · obtain ⟨z, hz, hz2⟩ := findR_mem (es := now) (s := s) (by omega)
      have hi := hD.idx z hz
      rw [hz2] at hi
      obtain ⟨q, hq⟩ : ∃ q : Nat, findR now s = q := ⟨(findR now s).toNat, by omega⟩
      rw [hq] at hi HF hk
      have hql : q < fs.length := by omega
      have hql' : (q : Int) < (fs.length : Int) := by omega
      obtain ⟨fb, fo, fc, fe, hfc, f0, f1, f2⟩ := FilesR_cells hD q hql
      have k0 : w1.cell? ⟨m, 0, none⟩ = some (.slice (some ⟨fb, fo, none⟩) fs.length fc) := by rw [← fe]; exact blk_cell hD.row 0
      have HW := Lib.hid (write_r hD hN q hql (fs[q]'hql).now.size (by omega) (by omega) ba xs.length bc xs HX.out rfl hxl)
      generalize fs[q]'hql = f at *
      clear hD f1 f2 hz2 hz hq hi
      go_wp2_with fail
      refine HF.out.mono ?_
      rintro e w2 ⟨rfl, rfl⟩
      go_wp2_with fail
      refine HW.out.mono ?_
      rintro e w3 ⟨⟨c3, rfl⟩, ⟨r3, fs3, now3, tn3, tc3, hr3, -⟩, hm3⟩
      have HR3 := Lib.hid hr3
      have HM3 := Lib.hid hm3
      clear hr3 hm3
      go_wp2_with fail
      go_ret
      exact ⟨⟨_, rfl⟩, ⟨_, _, _, _, _, HR3.out⟩, HM.out.trans HM3.out⟩
  · have hc' : (c == 0) = false := by simpa using hc
    clear hD
    go_wp2_with fail
    go_ret
    exact ⟨⟨_, rfl⟩, ⟨_, _, _, _, _, HD.out.mono (Nat.le_succ N)⟩, HM.out⟩
set_option maxRecDepth 100000 in
set_option maxHeartbeats 4000000 in
theorem pwrite_r (h : RDat N w m r fs now tn tc) (hN : N ≤ 4000) (s : ByteArray) (p : Int) (ba : Option Addr) (bn bc : Nat) (xs : List Int) (hx : Cells8 w ba xs) (hxm : xs ≠ [] → ∀ x, ba = some x → x.block ≠ m) (hbn : bn = xs.length) (hxl : xs.length ≤ 100) :
    Calls Try.prog 38 #[.pointer (some ⟨m, 0, none⟩), .string s, .int .i64 p, .slice ba bn bc] w (GoodP (N + 1) w m) := by
  subst hbn
  have HB := Lib.hid (begin_r N w m r fs now tn tc h)
  unfold BegP at HB
  unfold GoodP
  go_enter Try.func38, Try.ntmps38
  go_wp2_with fail
  refine HB.out.mono ?_
  rintro e w1 ⟨c, r', rfl, -, hD, hm⟩
  have HD := Lib.hid hD
  have HM := Lib.hid hm
  have HF := Lib.hid (findM_r hD (by omega) s)
  have HX := Lib.hid (show Cells8 w1 ba xs from Cells8.mod2 hm hx (fun h0 x hx0 => by simpa using hxm h0 x hx0))
  clear hm
  by_cases hc : c = 0
  · subst hc
    by_cases hk : findR now s < 0
    · generalize findR now s = k at *
      clear hD
      go_wp2_with fail
      refine HF.out.mono ?_
      rintro e w2 ⟨rfl, rfl⟩
      go_wp2_with fail
      go_ret
      exact ⟨⟨_, rfl⟩, ⟨_, _, _, _, _, HD.out.mono (Nat.le_succ N)⟩, HM.out⟩
    · obtain ⟨z, hz, hz2⟩ := findR_mem (es := now) (s := s) (by omega)
      have hi := hD.idx z hz
      rw [hz2] at hi
      obtain ⟨q, hq⟩ : ∃ q : Nat, findR now s = q := ⟨(findR now s).toNat, by omega⟩
      rw [hq] at hi HF hk
      have hql : q < fs.length := by omega
      have hql' : (q : Int) < (fs.length : Int) := by omega
      obtain ⟨fb, fo, fc, fe, hfc, f0, f1, f2⟩ := FilesR_cells hD q hql
      have k0 : w1.cell? ⟨m, 0, none⟩ = some (.slice (some ⟨fb, fo, none⟩) fs.length fc) := by rw [← fe]; exact blk_cell hD.row 0
      have HW := Lib.hid (fun (h1 : 0 ≤ p) (h2 : p ≤ (fs[q]'hql).now.size) => write_r hD hN q hql p h1 h2 ba xs.length bc xs HX.out rfl hxl)
      generalize fs[q]'hql = f at *
      clear hD f1 f2 hz2 hz hq hi
      go_wp2_with fail
      refine HF.out.mono ?_
      rintro e w2 ⟨rfl, rfl⟩
      by_cases h1 : p < 0
      · go_wp2_with fail
        go_ret
        exact ⟨⟨_, rfl⟩, ⟨_, _, _, _, _, HD.out.mono (Nat.le_succ N)⟩, HM.out⟩
      · by_cases h2 : (f.now.size : Int) < p
        · go_wp2_with fail
          go_ret
          exact ⟨⟨_, rfl⟩, ⟨_, _, _, _, _, HD.out.mono (Nat.le_succ N)⟩, HM.out⟩
        · have HW2 := Lib.hid (HW.out (by omega) (by omega))
          go_wp2_with fail
          refine HW2.out.mono ?_
          rintro e w3 ⟨⟨c3, rfl⟩, ⟨r3, fs3, now3, tn3, tc3, hr3, -⟩, hm3⟩
          have HR3 := Lib.hid hr3
          have HM3 := Lib.hid hm3
          clear hr3 hm3
          go_wp2_with fail
          go_ret
          exact ⟨⟨_, rfl⟩, ⟨_, _, _, _, _, HR3.out⟩, HM.out.trans HM3.out⟩
  · have hc' : (c == 0) = false := by simpa using hc
    clear hD
    go_wp2_with fail
    go_ret
    exact ⟨⟨_, rfl⟩, ⟨_, _, _, _, _, HD.out.mono (Nat.le_succ N)⟩, HM.out⟩
end
end Go.Proofs.Ytfcoaafmjllpfaa

/- The document's disk: Sync, Create. -/
namespace Go.Proofs.Ytfcoaafmjllpfaa
open Go.Shelf Go.ChangeShapes Go.WideShapes Go.ChangeAt Go.RowKit
set_option linter.unusedVariables false
set_option linter.unusedSimpArgs false
section
variable {N : Nat} {w : World} {m : Nat} {r : RdV} {fs : List FileR} {now : EntL} {tn : Nat} {tc : List Value}
set_option maxRecDepth 100000 in
set_option maxHeartbeats 4000000 in
theorem sync_r (h : RDat N w m r fs now tn tc) (hN : N ≤ 4000) (s : ByteArray) :
    Calls Try.prog 39 #[.pointer (some ⟨m, 0, none⟩), .string s] w (GoodP (N + 1) w m) := by
  have HB := Lib.hid (begin_r N w m r fs now tn tc h)
  unfold BegP at HB
  unfold GoodP
  go_enter Try.func39, Try.ntmps39
  go_wp2_with fail
  refine HB.out.mono ?_
  rintro e w1 ⟨c, r', rfl, -, hD, hm⟩
  have HD := Lib.hid hD
  have HM := Lib.hid hm
  have HF := Lib.hid (findM_r hD (by omega) s)
  clear hm
  by_cases hc : c = 0
  · subst hc
    by_cases hk : findR now s < 0
    · generalize findR now s = k at *
      clear hD
      go_wp2_with fail
      refine HF.out.mono ?_
      rintro e w2 ⟨rfl, rfl⟩
      go_wp2_with fail
      go_ret
      exact ⟨⟨_, rfl⟩, ⟨_, _, _, _, _, HD.out.mono (Nat.le_succ N)⟩, HM.out⟩
    · obtain ⟨z, hz, hz2⟩ := findR_mem (es := now) (s := s) (by omega)
      have hi := hD.idx z hz
      rw [hz2] at hi
      obtain ⟨q, hq⟩ : ∃ q : Nat, findR now s = q := ⟨(findR now s).toNat, by omega⟩
      rw [hq] at hi HF hk
      have hql : q < fs.length := by omega
      have hql' : (q : Int) < (fs.length : Int) := by omega
      obtain ⟨fb, fo, fc, fe, hfc, f0, f1, f2⟩ := FilesR_cells hD q hql
      have k0 : w1.cell? ⟨m, 0, none⟩ = some (.slice (some ⟨fb, fo, none⟩) fs.length fc) := by rw [← fe]; exact blk_cell hD.row 0
      have hsz := (hD.each (fs[q]'hql) (List.getElem_mem hql)).sz
      have HW := Lib.hid (with_r (hD.quiet ((Mod.refl [] w1).drew)) (by omega) q hql (fs[q]'hql).now (fs[q]'hql).now none 0 0 [] ⟨RowC.nil _ _ _, Nat.zero_le _, hsz⟩)
      unfold StepP at HW
      generalize fs[q]'hql = f at *
      clear hD f1 f2 hz2 hz hq hi hsz
      go_wp2_with fail
      refine HF.out.mono ?_
      rintro e w2 ⟨rfl, rfl⟩
      go_wp2_with fail
      -- REGION
      refine region_J (S := (fun W => W.cell? ⟨m, 0, none⟩ = some (.slice (some ⟨fb, fo, none⟩) fs.length fc) ∧ W.cell? ⟨fb, fo + q * 3, none⟩ = some (.string f.now))) (k := 19) (by kernel_rfl) (⟨k0, f0⟩) (fun hHeld => ?_)
      refine anyJ.take3 (i := 0) (oi := ?_) (v := ?_) ?_ (by kernel_rfl) (by kernel_rfl) (by kernel_rfl) (by kernel_rfl) ?_ (Or.inl ⟨?_, ?_⟩) hHeld ?_
      rotate_left 2
      · simp only [List.getElem?_toArray, List.getElem?_cons_succ, List.getElem?_cons_zero]; rfl
      · exact fun _ _ _ h => h
      · rfl
      · intro w hSw; (try dsimp only at hSw); go_simp; try (with_reducible rfl)
      try simp only [Act.put, List.setIfInBounds_toArray, List.set_cons_zero, List.set_cons_succ]
      refine anyJ.take3 (i := 1) (oi := ?_) (v := ?_) ?_ (by kernel_rfl) (by kernel_rfl) (by kernel_rfl) (by kernel_rfl) ?_ (Or.inl ⟨?_, ?_⟩) hHeld ?_
      rotate_left 2
      · simp only [List.getElem?_toArray, List.getElem?_cons_succ, List.getElem?_cons_zero]; rfl
      · exact fun _ _ _ h => h
      · rfl
      · intro w hSw; (try dsimp only at hSw); go_simp; try (with_reducible rfl)
      try simp only [Act.put, List.setIfInBounds_toArray, List.set_cons_zero, List.set_cons_succ]
      refine anyJ.take3 (i := 2) (oi := ?_) (v := ?_) ?_ (by kernel_rfl) (by kernel_rfl) (by kernel_rfl) (by kernel_rfl) ?_ (Or.inl ⟨?_, ?_⟩) hHeld ?_
      rotate_left 2
      · simp only [List.getElem?_toArray, List.getElem?_cons_succ, List.getElem?_cons_zero]; rfl
      · exact fun _ _ _ h => h
      · rfl
      · intro w hSw; (try dsimp only at hSw); go_simp; try (with_reducible rfl)
      try simp only [Act.put, List.setIfInBounds_toArray, List.set_cons_zero, List.set_cons_succ]
      refine anyJ.take3 (i := 3) (oi := ?_) (v := ?_) ?_ (by kernel_rfl) (by kernel_rfl) (by kernel_rfl) (by kernel_rfl) ?_ (Or.inl ⟨?_, ?_⟩) hHeld ?_
      rotate_left 2
      · simp only [List.getElem?_toArray, List.getElem?_cons_succ, List.getElem?_cons_zero]; rfl
      · exact fun _ _ _ h => h
      · rfl
      · intro w hSw; (try dsimp only at hSw); go_simp; try (with_reducible rfl)
      try simp only [Act.put, List.setIfInBounds_toArray, List.set_cons_zero, List.set_cons_succ]
      refine anyJ.take3 (i := 4) (oi := ?_) (v := ?_) ?_ (by kernel_rfl) (by kernel_rfl) (by kernel_rfl) (by kernel_rfl) ?_ (Or.inl ⟨?_, ?_⟩) hHeld ?_
      rotate_left 2
      · simp only [List.getElem?_toArray, List.getElem?_cons_succ, List.getElem?_cons_zero]; rfl
      · exact fun _ _ _ h => h
      · rfl
      · intro w hSw; (try dsimp only at hSw); go_simp; try (with_reducible rfl)
      try simp only [Act.put, List.setIfInBounds_toArray, List.set_cons_zero, List.set_cons_succ]
      refine anyJ.take3 (i := 5) (oi := ?_) (v := ?_) ?_ (by kernel_rfl) (by kernel_rfl) (by kernel_rfl) (by kernel_rfl) ?_ (Or.inl ⟨?_, ?_⟩) hHeld ?_
      rotate_left 2
      · simp only [List.getElem?_toArray, List.getElem?_cons_succ, List.getElem?_cons_zero]; rfl
      · exact fun _ _ _ h => h
      · rfl
      · intro w hSw; (try dsimp only at hSw); go_simp; try (with_reducible rfl)
      try simp only [Act.put, List.setIfInBounds_toArray, List.set_cons_zero, List.set_cons_succ]
      refine anyJ.take3 (i := 6) (oi := ?_) (v := ?_) ?_ (by kernel_rfl) (by kernel_rfl) (by kernel_rfl) (by kernel_rfl) ?_ (Or.inl ⟨?_, ?_⟩) hHeld ?_
      rotate_left 2
      · simp only [List.getElem?_toArray, List.getElem?_cons_succ, List.getElem?_cons_zero]; rfl
      · exact fun _ _ _ h => h
      · rfl
      · intro w hSw; (try dsimp only at hSw); go_simp; try (with_reducible rfl)
      try simp only [Act.put, List.setIfInBounds_toArray, List.set_cons_zero, List.set_cons_succ]
      refine anyJ.take3 (i := 7) (oi := ?_) (v := ?_) ?_ (by kernel_rfl) (by kernel_rfl) (by kernel_rfl) (by kernel_rfl) ?_ (Or.inl ⟨?_, ?_⟩) hHeld ?_
      rotate_left 2
      · simp only [List.getElem?_toArray, List.getElem?_cons_succ, List.getElem?_cons_zero]; rfl
      · exact fun _ _ _ h => h
      · rfl
      · intro w hSw; (try dsimp only at hSw); go_simp; try (with_reducible rfl)
      try simp only [Act.put, List.setIfInBounds_toArray, List.set_cons_zero, List.set_cons_succ]
      refine anyJ.take3 (i := 8) (oi := ?_) (v := ?_) ?_ (by kernel_rfl) (by kernel_rfl) (by kernel_rfl) (by kernel_rfl) ?_ (Or.inl ⟨?_, ?_⟩) hHeld ?_
      rotate_left 2
      · simp only [List.getElem?_toArray, List.getElem?_cons_succ, List.getElem?_cons_zero]; rfl
      · exact fun _ _ _ h => h
      · rfl
      · intro w hSw; (try dsimp only at hSw); go_simp; try (with_reducible rfl)
      try simp only [Act.put, List.setIfInBounds_toArray, List.set_cons_zero, List.set_cons_succ]
      refine anyJ.take3 (i := 9) (oi := ?_) (v := ?_) ?_ (by kernel_rfl) (by kernel_rfl) (by kernel_rfl) (by kernel_rfl) ?_ (Or.inl ⟨?_, ?_⟩) hHeld ?_
      rotate_left 2
      · simp only [List.getElem?_toArray, List.getElem?_cons_succ, List.getElem?_cons_zero]; rfl
      · exact fun _ _ _ h => h
      · rfl
      · intro w hSw; (try dsimp only at hSw); go_simp; try (with_reducible rfl)
      try simp only [Act.put, List.setIfInBounds_toArray, List.set_cons_zero, List.set_cons_succ]
      refine anyJ.take3 (i := 10) (oi := ?_) (v := ?_) ?_ (by kernel_rfl) (by kernel_rfl) (by kernel_rfl) (by kernel_rfl) ?_ (Or.inl ⟨?_, ?_⟩) hHeld ?_
      rotate_left 2
      · simp only [List.getElem?_toArray, List.getElem?_cons_succ, List.getElem?_cons_zero]; rfl
      · exact fun _ _ _ h => h
      · rfl
      · intro w hSw; (try dsimp only at hSw); go_simp; try (with_reducible rfl)
      try simp only [Act.put, List.setIfInBounds_toArray, List.set_cons_zero, List.set_cons_succ]
      refine anyJ.take3 (i := 11) (oi := ?_) (v := ?_) ?_ (by kernel_rfl) (by kernel_rfl) (by kernel_rfl) (by kernel_rfl) ?_ (Or.inl ⟨?_, ?_⟩) hHeld ?_
      rotate_left 2
      · simp only [List.getElem?_toArray, List.getElem?_cons_succ, List.getElem?_cons_zero]; rfl
      · exact fun _ _ _ h => h
      · rfl
      · intro w hSw; (try dsimp only at hSw); go_simp; try (with_reducible rfl)
      try simp only [Act.put, List.setIfInBounds_toArray, List.set_cons_zero, List.set_cons_succ]
      refine anyJ.take3 (i := 12) (oi := ?_) (v := ?_) ?_ (by kernel_rfl) (by kernel_rfl) (by kernel_rfl) (by kernel_rfl) ?_ (Or.inl ⟨?_, ?_⟩) hHeld ?_
      rotate_left 2
      · simp only [List.getElem?_toArray, List.getElem?_cons_succ, List.getElem?_cons_zero]; rfl
      · exact fun _ _ _ h => h
      · rfl
      · intro w hSw; (try dsimp only at hSw); go_simp; try (with_reducible rfl)
      try simp only [Act.put, List.setIfInBounds_toArray, List.set_cons_zero, List.set_cons_succ]
      refine anyJ.take3 (i := 13) (oi := ?_) (v := ?_) ?_ (by kernel_rfl) (by kernel_rfl) (by kernel_rfl) (by kernel_rfl) ?_ (Or.inl ⟨?_, ?_⟩) hHeld ?_
      rotate_left 2
      · simp only [List.getElem?_toArray, List.getElem?_cons_succ, List.getElem?_cons_zero]; rfl
      · exact fun _ _ _ h => h
      · rfl
      · intro w hSw; (try dsimp only at hSw); go_simp; try (with_reducible rfl)
      try simp only [Act.put, List.setIfInBounds_toArray, List.set_cons_zero, List.set_cons_succ]
      refine anyJ.take3 (i := 14) (oi := ?_) (v := ?_) ?_ (by kernel_rfl) (by kernel_rfl) (by kernel_rfl) (by kernel_rfl) ?_ (Or.inl ⟨?_, ?_⟩) hHeld ?_
      rotate_left 2
      · simp only [List.getElem?_toArray, List.getElem?_cons_succ, List.getElem?_cons_zero]; rfl
      · exact fun _ _ _ h => h
      · rfl
      · intro w hSw; (try dsimp only at hSw); go_simp; try (with_reducible rfl)
      try simp only [Act.put, List.setIfInBounds_toArray, List.set_cons_zero, List.set_cons_succ]
      refine anyJ.take3 (i := 15) (oi := ?_) (v := ?_) ?_ (by kernel_rfl) (by kernel_rfl) (by kernel_rfl) (by kernel_rfl) ?_ (Or.inl ⟨?_, ?_⟩) hHeld ?_
      rotate_left 2
      · simp only [List.getElem?_toArray, List.getElem?_cons_succ, List.getElem?_cons_zero]; rfl
      · exact fun _ _ _ h => h
      · rfl
      · intro w hSw; (try dsimp only at hSw); go_simp; try (with_reducible rfl)
      try simp only [Act.put, List.setIfInBounds_toArray, List.set_cons_zero, List.set_cons_succ]
      refine anyJ.take3 (i := 16) (oi := ?_) (v := ?_) ?_ (by kernel_rfl) (by kernel_rfl) (by kernel_rfl) (by kernel_rfl) ?_ (Or.inl ⟨?_, ?_⟩) hHeld ?_
      rotate_left 2
      · simp only [List.getElem?_toArray, List.getElem?_cons_succ, List.getElem?_cons_zero]; rfl
      · exact fun _ _ _ h => h
      · rfl
      · intro w hSw; (try dsimp only at hSw); go_simp; try (with_reducible rfl)
      try simp only [Act.put, List.setIfInBounds_toArray, List.set_cons_zero, List.set_cons_succ]
      refine anyJ.take3 (i := 17) (oi := ?_) (v := ?_) ?_ (by kernel_rfl) (by kernel_rfl) (by kernel_rfl) (by kernel_rfl) ?_ (Or.inl ⟨?_, ?_⟩) hHeld ?_
      rotate_left 2
      · simp only [List.getElem?_toArray, List.getElem?_cons_succ, List.getElem?_cons_zero]; rfl
      · exact fun _ _ _ h => h
      · rfl
      · intro w hSw; (try dsimp only at hSw); go_simp; try (with_reducible rfl)
      try simp only [Act.put, List.setIfInBounds_toArray, List.set_cons_zero, List.set_cons_succ]
      refine anyJ.take3 (i := 18) (oi := ?_) (v := ?_) ?_ (by kernel_rfl) (by kernel_rfl) (by kernel_rfl) (by kernel_rfl) ?_ (Or.inl ⟨?_, ?_⟩) hHeld ?_
      rotate_left 2
      · simp only [List.getElem?_toArray, List.getElem?_cons_succ, List.getElem?_cons_zero]; rfl
      · exact fun _ _ _ h => h
      · rfl
      · intro w hSw; (try dsimp only at hSw); go_simp; try (with_reducible rfl)
      try simp only [Act.put, List.setIfInBounds_toArray, List.set_cons_zero, List.set_cons_succ]
      refine anyJ.ready (rs := [19]) (by kernel_rfl) (by simp) ?_
      refine AllJ.last (o := ?_) ?_ (fun K hK => ?_)
      rotate_left
      · simp only [List.getElem?_toArray, List.getElem?_cons_succ, List.getElem?_cons_zero]; rfl
      · go_simp
        go_at_call 67
        refine HW.out.mono ?_
        rintro e w3 ⟨rfl, ⟨r3, fs3, now3, tn3, tc3, hr3, -⟩, hm3⟩
        have HR3 := Lib.hid hr3
        have HM3 := Lib.hid hm3
        clear hr3 hm3
        go_simp
        refine hK.out _ _ ?_
        clear hK K
        try simp only [Act.put, List.setIfInBounds_toArray, List.set_cons_zero, List.set_cons_succ]
        refine anyJ.done (by kernel_rfl) ?_ _
        go_wp2_with fail
        go_ret
        exact ⟨⟨_, rfl⟩, ⟨_, _, _, _, _, HR3.out.mono (Nat.le_succ N)⟩, (HM.out.drew).trans HM3.out⟩
      -- END
  · have hc' : (c == 0) = false := by simpa using hc
    clear hD
    go_wp2_with fail
    go_ret
    exact ⟨⟨_, rfl⟩, ⟨_, _, _, _, _, HD.out.mono (Nat.le_succ N)⟩, HM.out⟩
end
end Go.Proofs.Ytfcoaafmjllpfaa

/- The document's disk: Create. -/
namespace Go.Proofs.Ytfcoaafmjllpfaa
open Go.Shelf Go.ChangeShapes Go.WideShapes Go.ChangeAt Go.RowKit
set_option linter.unusedVariables false
set_option linter.unusedSimpArgs false
section
variable {N : Nat} {w w' : World} {m : Nat} {r : RdV} {fs : List FileR} {now : EntL} {tn : Nat} {tc : List Value}
def noFile : FileR := ⟨ByteArray.empty, ByteArray.empty, .slice none 0 0, 0, []⟩
theorem RDat.more (h : RDat N w m r fs now tn tc) (hm : Mod [m] w w') (v : Value) (r' : RdV) (e1 : r'.fv = v) (e2 : r'.nv = r.nv) (e3 : ∃ a n c, r'.sv = .slice a n c) (e4 : r'.tv = r.tv) (hv : RowC w 78 3 v (fs.length + 1) (fileC fs ++ [.string ByteArray.empty, .string ByteArray.empty, .slice none 0 0]))
    (hr : w'.heap[m]? = some (.cells (rdC r') 74 (0, 0))) : RDat (N + 1) w' m r' (fs ++ [noFile]) now tn tc := by
  have hno : ∀ {t : TypeId}, 74 ≠ t → ∀ q ∈ [m], ¬ IsT t w q := fun hne q hq => by
    rw [List.mem_singleton.1 hq]; exact h.isM.ne hne
  have hlen : (fs ++ [noFile]).length = fs.length + 1 := by simp
  refine ⟨hr, ?_, ?_, by rw [e2]; exact RowC.mod h.ents hm (hno (by decide)), by rw [e4]; exact h.waits.mod hm (hno (by decide)), e3, by rw [hlen]; have := h.lf; omega, Nat.le_succ_of_le h.ln, Nat.le_succ_of_le h.lt, ?_⟩
  · rw [e1, hlen, fileC_app]; exact hv.mod hm (hno (by decide))
  · intro f hf
    rcases List.mem_append.1 hf with h1 | h1
    · exact ⟨(h.each f h1).wr.mod hm (hno (by decide)), Nat.le_succ_of_le (h.each f h1).wn, by have := (h.each f h1).sz; omega⟩
    · rw [List.mem_singleton.1 h1]
      exact ⟨RowC.nil _ _ _, Nat.zero_le _, Nat.zero_le _⟩
  · intro e he
    have := h.idx e he
    rw [hlen]; omega
set_option maxRecDepth 100000 in
set_option maxHeartbeats 8000000 in
theorem create_r (h : RDat N w m r fs now tn tc) (hN : N ≤ 4000) (s : ByteArray) (hs : s.size ≤ 1000000000) :
    Calls Try.prog 35 #[.pointer (some ⟨m, 0, none⟩), .string s] w (GoodP (N + 2) w m) := by
  have HB := Lib.hid (begin_r N w m r fs now tn tc h)
  unfold BegP at HB
  unfold GoodP
  go_enter Try.func35, Try.ntmps35
  go_wp2_with fail
  refine HB.out.mono ?_
  rintro e w1 ⟨c, r', rfl, -, hD, hm⟩
  have HD := Lib.hid hD
  have HM := Lib.hid hm
  have HNm := Lib.hid (name_r s w1 hs)
  unfold IsBool at HNm
  have HF := Lib.hid (findM_r hD (by omega) s)
  generalize findR now s = k at *
  obtain ⟨fv, nv, sv, tv, cap, dn, calls, fa, cr, er⟩ := r'
  obtain ⟨la, lcp, hfv, hlc, -⟩ := hD.files.shape
  obtain ⟨na, ncp, hnv, -⟩ := hD.ents.shape
  simp only at hfv hnv
  subst hfv hnv
  have k1 : w1.cell? ⟨m, 1, none⟩ = some (.slice na now.length ncp) := blk_cell hD.row 1
  have hlf := hD.lf
  clear hm hD
  by_cases hc : c = 0
  · subst hc
    go_wp2_with fail
    refine HNm.out.mono ?_
    rintro e w2 ⟨⟨b, rfl⟩, rfl⟩
    cases b
    · go_wp2_with fail
      go_ret
      exact ⟨⟨_, rfl⟩, ⟨_, _, _, _, _, HD.out.mono (by omega)⟩, HM.out⟩
    · go_wp2_with fail
      refine HF.out.mono ?_
      rintro e w2 ⟨rfl, rfl⟩
      by_cases hk : 0 ≤ k
      · go_wp2_with fail
        go_ret
        exact ⟨⟨_, rfl⟩, ⟨_, _, _, _, _, HD.out.mono (by omega)⟩, HM.out⟩
      · by_cases hn : (now.length : Int) = 1024
        · have hn' : ((now.length : Int) == 1024) = true := by simpa using hn
          clear hn
          go_wp2_with fail
          go_ret
          exact ⟨⟨_, rfl⟩, ⟨_, _, _, _, _, HD.out.mono (by omega)⟩, HM.out⟩
        · have hn' : ((now.length : Int) == 1024) = false := by simpa using hn
          clear hn
          have hma : Mod [] w2 (w2.alloc (.cells #[] 78)) := (Mod.refl [] w2).alloc _
          have hDa := HD.out.quiet hma
          have ka : (w2.alloc (.cells #[] 78)).cell? ⟨m, 0, none⟩ = some (.slice la fs.length lcp) := blk_cell hDa.row 0
          have HDa := Lib.hid hDa
          have HMa := Lib.hid hma
          have HOa := Lib.hid (World.ownsRow_made (base := w2.heap.size) (e := 78) (size := 3) w2 #[] 0 (Nat.le_refl _) (by simp [maxLen]) (by simp))
          clear hma hDa
          go_wp2_with (at_builtin; refine wpList_appR _ rfl _ _ 70 rfl 78 _ 3 56 Try.underlying70 flinfo rfl (by decide) w2.heap.size _ 0 [] rfl HOa.out _ fs.length _ rfl HDa.out.files (by omega) HMa.out.size ?_)
          intro v3 w3 ho3 hm3
          obtain ⟨ao3, co3, rfl, -, -⟩ := owns_shape ho3
          simp only [Value.ownBlock, Option.toList_some, Nat.zero_add, List.nil_append] at hm3 ho3
          have hm13 : Mod [] w2 w3 := HMa.out.trans' hm3 (fun y hy => .inr (by rw [List.mem_singleton.1 hy]; exact Nat.le_refl _))
          have HM13 := Lib.hid hm13
          have hmb : Mod [] w3 (w3.alloc (.cells #[.string ByteArray.empty, .string ByteArray.empty, .slice none 0 0] 78)) := (Mod.refl [] w3).alloc _
          have HMb := Lib.hid hmb
          have HOb := Lib.hid (hmb.owns ho3 (by simp))
          have HOn := Lib.hid (one_row w3 78 #[.string ByteArray.empty, .string ByteArray.empty, .slice none 0 0] (by intro u hu; simp at hu; rcases hu with rfl | rfl | rfl <;> rfl))
          clear hm13 hmb ho3 hm3 ka
          go_wp2_with (at_builtin; refine wpList_appR _ rfl _ _ 70 rfl 78 _ 3 56 Try.underlying70 flinfo rfl (by decide) w2.heap.size _ _ _ rfl HOb.out _ 1 _ rfl HOn.out (by omega) (HM13.out.trans HMb.out).size ?_)
          intro v4 w4 ho4 hm4
          obtain ⟨ao4, co4, rfl, -, -⟩ := owns_shape ho4
          have hm14 : Mod [] w2 w4 := (HM13.out.trans HMb.out).trans' hm4 (fun y hy => .inr (HOb.out.lt y (Option.mem_toList.1 hy)).1)
          have hD4 := HD.out.quiet hm14
          have k0 : w4.cell? ⟨m, 0, none⟩ = some (.slice la fs.length lcp) := blk_cell hD4.row 0
          have z0 := blk_free hD4.row 0
          have hv4 := RowC.ofOwns ho4 (by
            intro u hu
            rcases List.mem_append.1 hu with h1 | h1
            · exact HD.out.files.one u h1
            · simp at h1; rcases h1 with rfl | rfl | rfl <;> rfl)
          have hr5 := blk_set hD4.row 0 (.slice ao4 (fs.length + 1) co4)
          have hm5 := mod_set w4 m 0 (.slice ao4 (fs.length + 1) co4)
          have hD5 := hD4.more hm5 _ ⟨.slice ao4 (fs.length + 1) co4, .slice na now.length ncp, sv, tv, cap, dn, calls, fa, cr, er⟩ rfl rfl HD.out.sure rfl hv4 hr5
          have HD5 := Lib.hid hD5
          have HM5 := Lib.hid ((hm14.mono (by simp)).trans hm5)
          have k5 : (w4.setCell ⟨m, 0, none⟩ (.slice ao4 (fs.length + 1) co4)).cell? ⟨m, 0, none⟩ = some (.slice ao4 (fs.length + 1) co4) := blk_cell hr5 0
          have hwr : wrap64 (((fs.length + 1 : Nat) : Int) - 1) = (fs.length : Int) := by unfold wrap64; omega
          have HT := Lib.hid (turn_r hD5 (by omega) ByteArray.empty s fs.length (by simp; omega))
          unfold StepP at HT
          clear hm14 hD4 hv4 hr5 hm5 hD5 ho4 hm4
          go_wp2_with fail
          refine HT.out.mono ?_
          rintro e w6 ⟨rfl, ⟨r6, fs6, now6, tn6, tc6, hr6, -⟩, hm6⟩
          have HR6 := Lib.hid hr6
          have HM6 := Lib.hid hm6
          clear hr6 hm6
          go_wp2_with fail
          go_ret
          exact ⟨⟨_, rfl⟩, ⟨_, _, _, _, _, HR6.out⟩, (HM.out.trans HM5.out).trans HM6.out⟩
  · have hc' : (c == 0) = false := by simpa using hc
    go_wp2_with fail
    go_ret
    exact ⟨⟨_, rfl⟩, ⟨_, _, _, _, _, HD.out.mono (by omega)⟩, HM.out⟩
end
end Go.Proofs.Ytfcoaafmjllpfaa

/- The document's disk: Arm, Failing, New without files. -/
namespace Go.Proofs.Ytfcoaafmjllpfaa
open Go.Shelf Go.ChangeShapes Go.WideShapes Go.ChangeAt Go.RowKit
set_option linter.unusedVariables false
set_option linter.unusedSimpArgs false
def IsInt (e : Ending) : Prop := ∃ c, e = .returned (.int .i64 c)
theorem arm_r (w : World) (a c : Int) : Calls Try.prog 46 #[.int .i64 a, .int .i64 c] w fun e w' => IsInt e ∧ w' = w := by
  go_enter Try.func46, Try.ntmps46
  by_cases h0 : a < 0
  · go_wp2_with fail
    go_ret
    exact ⟨⟨_, rfl⟩, rfl⟩
  · have h1 : (c == 0) = true ∨ (c == 0) = false := by cases (c == 0) <;> simp
    rcases h1 with h1 | h1
    all_goals
      go_wp2_with fail
      go_ret
      exact ⟨⟨_, rfl⟩, rfl⟩
theorem failing_r (w : World) (a c : Int) : Calls Try.prog 45 #[.int .i64 a, .int .i64 c] w fun e w' => IsInt e ∧ w' = w := by
  have HA := Lib.hid (arm_r w a c)
  unfold IsInt at HA
  go_enter Try.func45, Try.ntmps45
  have h1 : (c == 11) = true ∨ (c == 11) = false := by cases (c == 11) <;> simp
  rcases h1 with h1 | h1
  · go_wp2_with fail
    go_ret
    exact ⟨⟨_, rfl⟩, rfl⟩
  · go_wp2_with fail
    refine HA.out.mono ?_
    rintro e w1 ⟨⟨v, rfl⟩, rfl⟩
    go_wp2_with fail
    go_ret
    exact ⟨⟨_, rfl⟩, rfl⟩
def NewRP (w : World) (e : Ending) (w' : World) : Prop := e = .returned (.pointer (some ⟨w.heap.size, 0, none⟩)) ∧ (∃ r, RDat 0 w' w.heap.size r [] [] 0 []) ∧ Mod [] w w'
set_option maxHeartbeats 4000000 in
theorem newNil_r (w : World) : Calls Try.prog 14 #[.slice none 0 0, .int .i64 1048576] w (NewRP w) := by
  have HR := Lib.hid (heap_alloc_new w (.cells (rdC ⟨.slice none 0 0, .slice none 0 0, .slice none 0 0, .slice none 0 0, 1048576, false, 0, -1, -1, 0⟩) 74))
  have HM := Lib.hid ((Mod.refl [] w).alloc (.cells (rdC ⟨.slice none 0 0, .slice none 0 0, .slice none 0 0, .slice none 0 0, 1048576, false, 0, -1, -1, 0⟩) 74))
  unfold NewRP
  unfold rdC at HR HM
  simp only at HR HM
  go_enter Try.func14, Try.ntmps14
  go_wp2_with fail
  generalize hw1 : w.alloc (.cells #[.slice none 0 0, .slice none 0 0, .slice none 0 0, .slice none 0 0, .int .i64 1048576, .bool false, .int .i64 0, .int .i64 (-1), .int .i64 (-1), .int .i64 0] 74) = w1 at *
  have k1 : w1.cell? ⟨w.heap.size, 1, none⟩ = some (.slice none 0 0) := blk_cell HR.out 1
  have k2 : w1.cell? ⟨w.heap.size, 2, none⟩ = some (.slice none 0 0) := blk_cell HR.out 2
  have z2 := blk_free HR.out 2
  have HR2 := Lib.hid (blk_set HR.out 2 (.slice none 0 0))
  go_loop [7] (fun v => v = .int .i64 0) (fun _ => 0)
  case atStart => rfl
  case round =>
    subst hrel
    go_wp2_with fail
    go_ret
    have hm2 : Mod [w.heap.size] w1 _ := mod_set w1 w.heap.size 2 (.slice none 0 0)
    refine ⟨rfl, ⟨⟨.slice none 0 0, .slice none 0 0, .slice none 0 0, .slice none 0 0, 1048576, false, 0, -1, -1, 0⟩, HR2.out, RowC.nil _ _ _, by simp, RowC.nil _ _ _, RowC.nil _ _ _, ⟨_, _, _, rfl⟩, Nat.le_refl _, Nat.le_refl _, Nat.le_refl _, by simp⟩, HM.out.trans' hm2 (fun y hy => .inr (by rw [List.mem_singleton.1 hy]; exact Nat.le_refl _))⟩
end Go.Proofs.Ytfcoaafmjllpfaa

/- Acts that came in; few. -/
namespace Go.Proofs.Ytfcoaafmjllpfaa
open Go.Shelf Go.ChangeShapes Go.WideShapes Go.ChangeAt Go.RowKit
set_option linter.unusedVariables false
set_option linter.unusedSimpArgs false
structure ActV where
  kd : Int
  a : ByteArray
  b : ByteArray
  n : Int
  cd : Int
  ka : Option Addr
  kn : Nat
  kc : Nat
instance : Inhabited ActV := ⟨⟨0, ByteArray.empty, ByteArray.empty, 0, 0, none, 0, 0⟩⟩
def CellsA (w : World) (x : Option Addr) (l : List ActV) : Prop :=
  l = [] ∨ ∃ b o, x = some ⟨b, o, none⟩ ∧ ∀ i (h : i < l.length), w.cell? ⟨b, o + i * 6, none⟩ = some (.int .i64 l[i].kd) ∧ w.cell? ⟨b, o + i * 6 + 1, none⟩ = some (.string l[i].a) ∧ w.cell? ⟨b, o + i * 6 + 2, none⟩ = some (.string l[i].b) ∧ w.cell? ⟨b, o + i * 6 + 3, none⟩ = some (.int .i64 l[i].n) ∧ w.cell? ⟨b, o + i * 6 + 4, none⟩ = some (.int .i64 l[i].cd) ∧ w.cell? ⟨b, o + i * 6 + 5, none⟩ = some (.slice l[i].ka l[i].kn l[i].kc)
def Few (l : List ActV) : Prop := l.length ≤ 60 ∧ ∀ x ∈ l, x.a.size ≤ 100 ∧ x.b.size ≤ 100
def FewP (l : List ActV) (e : Ending) : Prop := ∃ b, e = .returned (.bool b) ∧ (b = true → Few l)
set_option maxRecDepth 100000 in
set_option maxHeartbeats 4000000 in
theorem few_r (w : World) (x : Option Addr) (cp : Nat) (l : List ActV) (hl : l.length ≤ 9223372036854775807) (hc : CellsA w x l) :
    Calls Try.prog 9 #[.slice x l.length cp] w fun e w' => FewP l e ∧ w' = w := by
  have HC := Lib.hid hc
  clear hc
  go_enter Try.func9, Try.ntmps9
  by_cases h60 : 60 < (l.length : Int)
  · go_wp2_with fail
    go_ret
    exact ⟨⟨_, rfl, by simp⟩, rfl⟩
  · go_wp2_with fail
    go_loop [3] (fun v => ∃ i : Nat, v = .int .i64 i ∧ i ≤ l.length ∧ ∀ y ∈ l.take i, y.a.size ≤ 100 ∧ y.b.size ≤ 100) (fun v => l.length - (intOf v).toNat)
    case atStart => exact ⟨0, rfl, Nat.zero_le _, by simp⟩
    case round =>
      obtain ⟨i, rfl, hi, he⟩ := hrel
      have HE := Lib.hid he
      clear he
      by_cases hlt : i < l.length
      · have h1 := HC.out
        unfold CellsA at h1
        rcases h1 with h1 | ⟨b, o, rfl, h1⟩
        · subst h1; simp at hlt
        · obtain ⟨j0, j1, j2, j3, j4, j5⟩ := h1 i hlt
          have HT := Lib.hid (List.take_succ_eq_append_getElem hlt)
          generalize l[i]'hlt = v at *
          obtain ⟨kd, sa, sb, n, cd, ka, kn, kc⟩ := v
          simp only at j0 j1 j2 j3 j4 j5
          clear h1 j0 j3 j4
          by_cases g1 : 100 < (sa.size : Int)
          · go_wp2_with fail
            go_ret
            exact ⟨⟨_, rfl, by simp⟩, rfl⟩
          · by_cases g2 : 100 < (sb.size : Int)
            · go_wp2_with fail
              go_ret
              exact ⟨⟨_, rfl, by simp⟩, rfl⟩
            · by_cases g3 : 100 < (kn : Int)
              · go_wp2_with fail
                go_ret
                exact ⟨⟨_, rfl, by simp⟩, rfl⟩
              · go_wp2_with fail
                go_round
                case rel =>
                  refine ⟨i + 1, by go_num, by omega, fun y hy => ?_⟩
                  rw [HT.out] at hy
                  rcases List.mem_append.1 hy with h2 | h2
                  · exact HE.out y h2
                  · rw [List.mem_singleton.1 h2]; exact ⟨by show sa.size ≤ 100; omega, by show sb.size ≤ 100; omega⟩
                case measure => simp [intOf]; omega
      · have he : i = l.length := by omega
        subst he
        go_wp2_with fail
        go_ret
        exact ⟨⟨_, rfl, fun _ => ⟨by omega, by have := HE.out; rwa [List.take_length] at this⟩⟩, rfl⟩
end Go.Proofs.Ytfcoaafmjllpfaa

