import Derived.Test.YtbhdlclaooohfaaDoorEvSt
import Derived.Test.YtbhdlclaooohfaaDoorEvSameLaw
import Derived.Test.YtbhdlclaooohfaaDoorInts
/- Envel: EnvelSteps' law. Written by tools/mkevsteps.py. -/
namespace Go.Proofs.YtbhdlclaooohfaaDoor
open Go.Maps Go.Shelf Go.Proofs.YtbhdlclaooohfaaDoor.Ad Go.ChangeShapes Go.WideShapes Go.ChangeAt Go.RowKit
set_option linter.unusedVariables false
set_option linter.unusedSimpArgs false

/-- the file and the wanted states as far as the law has them -/
structure LW (w W : World) (gj : Nat) (j : Jb) (p : JA) (v : Value) (L : List Int) (u : Value) (sts : List JSt) : Prop where
  own : Own8 w.heap.size w W v L
  want : W.ownsRow w.heap.size 37 4 u sts.length (rowC stC sts)
  row : W.heap[gj]? = some (.cells (jbC j p) 28 (0, 0))
section
variable {w W W' : World} {gj : Nat} {j : Jb} {p : JA} {v v' : Value} {L L' : List Int} {u : Value} {sts : List JSt}
theorem LW.quiet (h : LW w W gj j p v L u sts) (hm : Mod [] W W') : LW w W' gj j p v L u sts := ⟨h.own.quiet hm, hm.owns h.want (by simp), hm.row h.row (by simp)⟩
theorem LW.grew (h : LW w W gj j p v L u sts) (hg : Grew 5 W v L' v' W') (hb : Bytes L') : LW w W' gj j p v' L' u sts := by
  have hT : ∀ x ∈ v.ownBlock.toList, IsT 5 W x := fun x hx => owns_isT h.own.own (by simpa using hx)
  refine ⟨h.own.grew hg hb, hg.mod.owns h.want ?_, hg.mod.row h.row ?_⟩
  · intro k hk hx
    obtain ⟨cs, hc⟩ := hT k hx
    exact ne_type hc (show 5 ≠ 37 by decide) (owns_isT h.want hk)
  · intro hx
    obtain ⟨cs, hc⟩ := hT _ hx
    exact ne_type hc (show 5 ≠ 28 by decide) ⟨_, h.row⟩
theorem LW.set {g n c : Nat} (h : LW w W gj j p v L (.slice (some ⟨g, 0, none⟩) n c) sts) (hn : n = sts.length) (i : Nat) (hi : i < sts.length) (x : JSt) :
    LW w ((((W.setCell ⟨g, i * 4, none⟩ (.int .i64 x.st)).setCell ⟨g, i * 4 + 1, none⟩ (.int .i64 x.tries)).setCell ⟨g, i * 4 + 2, none⟩ (.int .i64 x.due)).setCell ⟨g, i * 4 + 3, none⟩ (.int .i64 x.code)) gj j p v L (.slice (some ⟨g, 0, none⟩) n c) (sts.set i x) := by
  have hw := h.want
  rw [← hn] at hw
  obtain ⟨cur, hcur⟩ := owns_isT hw (k := g) rfl
  have hgB : w.heap.size ≤ g := (hw.lt g rfl).1
  have hm : Mod [g] W ((((W.setCell ⟨g, i * 4, none⟩ (.int .i64 x.st)).setCell ⟨g, i * 4 + 1, none⟩ (.int .i64 x.tries)).setCell ⟨g, i * 4 + 2, none⟩ (.int .i64 x.due)).setCell ⟨g, i * 4 + 3, none⟩ (.int .i64 x.code)) :=
    ((((Mod.refl [g] W).setCell (Or.inl (by simp)) _).setCell (Or.inl (by simp)) _).setCell (Or.inl (by simp)) _).setCell (Or.inl (by simp)) _
  have hl : (sts.set i x).length = n := by simp [hn]
  refine ⟨h.own.mod hm (by simpa using hgB) ?_, ?_, hm.row h.row ?_⟩
  · intro k hk hx
    simp at hx; subst hx
    exact ne_type hcur (show 37 ≠ 5 by decide) (owns_isT h.own.own hk)
  · rw [hl]; exact owns_set4 hw i hi x
  · intro hx
    simp at hx; subst hx
    exact ne_type hcur (show 37 ≠ 28 by decide) ⟨_, h.row⟩
end
theorem rowC_one : ∀ (xs : List JSt), ∀ u ∈ rowC stC xs, u.oneCell' = true := by
  intro xs u hu
  obtain ⟨x, _, hx⟩ := List.mem_flatMap.1 hu
  simp at hx
  rcases hx with rfl | rfl | rfl | rfl <;> rfl
theorem Src.ofSt {w : World} {a : Option Addr} {xs : List JSt} (h : CellsSt w a xs) (n cap : Nat) (hn : n = xs.length) : Src Tryd.prog 4 25 (.slice a n cap) n (rowC stC xs) w := by
  subst hn
  rcases h with rfl | ⟨b, o, rfl, hc⟩
  · cases a with
    | none => exact Src.ofNil w Tryd.underlying25 cap
    | some x => exact Src.ofSlice w Tryd.underlying25 x 0 cap [] (by simp) (by intro j u hu; simp at hu) (fun _ h => by cases h)
  · have hl := rowC_length stC_size xs
    refine Src.ofSlice w Tryd.underlying25 _ _ _ _ (by rw [hl]; omega) ?_ (rowC_one xs)
    intro q u hu
    have hq := (List.getElem?_eq_some_iff.1 hu).1
    rw [hl] at hq
    have hi : q / 4 < xs.length := by omega
    have hj : q % 4 < 4 := Nat.mod_lt _ (by decide)
    have hq2 : q = q / 4 * 4 + q % 4 := by omega
    have h1 := hc (q / 4) hi (q % 4) hj
    have h2 := rowC_get stC_size xs (q / 4) hi (q % 4) hj
    rw [← hq2, hu] at h2
    rw [Addr.add_lit]
    rw [show o + q / 4 * 4 + q % 4 = o + q by omega] at h1
    rw [h1, ← h2]
section
variable {P : Program}
theorem wpList_appC (w : World) {ops : Array Oper} {rest : List Oper} {o : Oper} {a : Go.Act} {Q : Exit → Go.Act → World → Prop} (hgd : o.guard = none) (s x : Operand) (t : TypeId)
    (ho : o.op = .call { callee := .builtin .append, args := #[s, x], argTypes := #[t, t] }) (e : TypeId) (z : Value) (k bytes : Nat) (ht : P.underlying t = some (.slice e)) (hi : (P.info? e).map (fun i => (i.zero, i.size, i.bytes)) = some (some z, k, bytes)) (hzs : z.cells.size = k) (hby : bytes ≤ 100)
    (B : Nat) (v : Value) (n : Nat) (xs : List Value) (hs : a.eval s = v) (hown : w.ownsRow B e k v n xs) (xv : Value) (m : Nat) (ys : List Value) (hx : a.eval x = xv) (hsrc : Src P k t xv m ys w) (hl : n + m ≤ 1000000000) (hB : B ≤ w.heap.size)
    (h : ∀ v' w', w'.ownsRow B e k v' (n + m) (xs ++ ys) → Mod v.ownBlock.toList w w' → (v'.ownBlock = v.ownBlock ∨ v'.ownBlock = some w.heap.size) → wpList P ops Q rest (a.put o.dst v') w') : wpList P ops Q (o :: rest) a w := by
  obtain ⟨i, h1, h2, h3, h4⟩ := info_parts hi
  refine wpList_append_src w hgd s x t t ho B e i z k bytes ht h1 h2 h3 h4 hzs v n xs hs hown xv m ys hx hsrc (by simp only [maxLen]; omega) (by have : (n + m) * bytes ≤ 1000000000 * 100 := Nat.mul_le_mul hl hby; omega) hB ?_
  intro v' w' k1 k2 k3
  exact h v' w' k1 (Mod.ofGrown k2) k3
end
theorem owns_emptySt (w : World) {B : Nat} (hB : B ≤ w.heap.size) : (w.alloc (.cells #[] 37)).ownsRow B 37 4 (.slice (some ⟨w.heap.size, 0, none⟩) 0 0) 0 [] :=
  ⟨rfl, .inr ⟨w.heap.size, 0, #[], rfl, hB, heap_alloc_new w _, Nat.le_refl _, by simp [maxLen], rfl, rfl⟩⟩
set_option maxRecDepth 100000 in
set_option maxHeartbeats 16000000 in
theorem stepsLaw_any (w : World) (j : Jb) (p : JA) (hj : JobAt w j p) (a1 : Option Addr) (n1 c1 : Nat) (ts : List Int) (ht1 : CellsI w a1 ts) (hn1 : n1 = ts.length) (hts : ∀ t ∈ ts, -9223372036854775808 ≤ t ∧ t ≤ 9223372036854775807) (a2 : Option Addr) (n2 c2 : Nat) (ss : List JSt) (hs2 : CellsSt w a2 ss) (hn2 : n2 = ss.length) (cut : Int) (hcut : -9223372036854775808 ≤ cut ∧ cut ≤ 9223372036854775807) (ht : Halves w) :
    Calls Tryd.prog 3 #[.agg (jbC j p), .slice a1 n1 c1, .slice a2 n2 c2, .int .i64 cut] w (TrueB w) := by
  unfold TrueB
  have hrow := heap_alloc_new w (.cells (jbC j p) 28)
  have hM : Mod [] w (w.alloc (.cells (jbC j p) 28)) := (Mod.refl [] w).alloc _
  have HM := Lib.hid hM
  have HJ := Lib.hid hj
  have HT1 := Lib.hid ht1
  have HN1 := Lib.hid hn1
  have HTb := Lib.hid hts
  have HS2 := Lib.hid hs2
  have HN2 := Lib.hid hn2
  have HCut := Lib.hid hcut
  have HHv := Lib.hid ht
  have HAw := Lib.hid (awake_any _ (ht.old (hM.toBelow (Nat.le_refl _) (by simp))))
  have HRow := Lib.hid hrow
  unfold StP at HAw
  clear hj ht1 hn1 hts hs2 hn2 hcut ht hM hrow
  go_enter Tryd.func3, Tryd.ntmps3
  go_wp2_with fail
  refine HAw.out.mono ?_
  rintro e w1 ⟨rfl, hm⟩
  have HM1 := Lib.hid (HM.out.trans hm)
  have HR1 := Lib.hid (hm.row HRow.out (by simp))
  obtain ⟨x0, x1, x2, x3, x4, x5, x6⟩ := JobRow.cells HR1.out
  clear hm
  go_wp2_with fail
  refine (light_job w1 j p (HJ.out.quiet HM1.out)).mono ?_
  intro e w2 hl
  rcases lightF hl with ⟨rfl, hm⟩ | ⟨rfl, hla, hm⟩
  · have HM2 := Lib.hid (HM1.out.trans hm)
    clear hm hl
    go_wp2_with fail
    go_ret
    exact ⟨rfl, HM2.out.toBelow (Nat.le_refl _) (by simp)⟩
  have HM2 := Lib.hid (HM1.out.trans hm)
  have HR2 := Lib.hid (hm.row HR1.out (by simp))
  have HLt := Lib.hid hla
  clear hm hl hla x0 x1 x2 x3 x4 x5 x6
  by_cases g1 : n1 ≤ 30
  case neg =>
    have g1' : (30 : Int) < (n1 : Int) := by omega
    clear g1
    go_wp2_with fail
    go_ret
    exact ⟨rfl, HM2.out.toBelow (Nat.le_refl _) (by simp)⟩
  have g1' : ¬ (30 : Int) < (n1 : Int) := by omega
  by_cases g2 : n2 ≤ 30
  case neg =>
    have g2' : (30 : Int) < (n2 : Int) := by omega
    clear g2
    go_wp2_with fail
    go_ret
    exact ⟨rfl, HM2.out.toBelow (Nat.le_refl _) (by simp)⟩
  have g2' : ¬ (30 : Int) < (n2 : Int) := by omega
  have HG1 := Lib.hid g1
  have HG2 := Lib.hid g2
  obtain ⟨x0, x1, x2, x3, x4, x5, x6⟩ := JobRow.cells HR2.out
  have HBy := Lib.hid (bytes_job w2 j p (HJ.out.quiet HM2.out) HLt.out.small (HHv.out.old (HM2.out.toBelow (Nat.le_refl _) (by simp))))
  unfold NewBE at HBy
  cases hg : goodJ j
  · have hbr : bytesR j = [] := by unfold bytesR; rw [hg]; rfl
    have hbe : bytesE j = 3 := by unfold bytesE; rw [hg]; rfl
    rw [hbr, hbe] at HBy
    have HGd := Lib.hid (fun W (hm : Mod [] w2 W) => good_job W j p (HJ.out.quiet (HM2.out.trans hm)) HLt.out.small)
    unfold StP at HGd
    rw [hg] at HGd
    clear hbr hbe hg g1 g2
    go_wp2_with fail
    refine HBy.out.mono ?_
    rintro e w3 ⟨a3, c3, rfl, ho3, hb3⟩
    have hm3 : Mod [] w2 w3 := Mod.ofBelow hb3
    have HM3 := Lib.hid hm3
    obtain ⟨z0, z1, z2, z3, z4, z5, z6⟩ := JobRow.cells (hm3.row HR2.out (by simp))
    clear ho3 hb3 hm3 x0 x1 x2 x3 x4 x5 x6
    go_wp2_with (go_at_call 8; refine (HGd.out _ HM3.out).mono ?_; rintro e w4 ⟨rfl, hm4⟩; have HM4 := Lib.hid (HM3.out.trans hm4); clear hm4)
    go_ret
    exact ⟨rfl, (HM2.out.trans HM4.out).toBelow (Nat.le_refl _) (by simp)⟩
  have hbr : bytesR j = bytesL j := by unfold bytesR; rw [hg]; rfl
  have hbe : bytesE j = 0 := by unfold bytesE; rw [hg]; rfl
  rw [hbr, hbe] at HBy
  have HGj := Lib.hid hg
  have HTi := Lib.hid (tight hg)
  have HBb : Hid (Bytes (bytesL j)) := Lib.hid (by rw [bytesL_row]; exact rowL_bytes (fileK_ok HTi.out HJ.out.body.1 (ssOf_ok HTi.out)))
  clear hbr hbe hg
  go_wp2_with fail
  refine HBy.out.mono ?_
  rintro e w3 ⟨a3, c3, rfl, ho3, hb3⟩
  have HO3 : Hid (Own8 w.heap.size w w3 (.slice a3 (bytesL j).length c3) (bytesL j)) := Lib.hid ⟨owns_rebase ho3 (fun k hk => Nat.le_trans HM2.out.size (ho3.lt k hk).1), (HM2.out.trans (Mod.ofBelow hb3)).toBelow (Nat.le_refl _) (by simp), (HM2.out.trans (Mod.ofBelow hb3)).size, HBb.out⟩
  have HR3 := Lib.hid ((Mod.ofBelow hb3).row HR2.out (by simp))
  have HM3 := Lib.hid (HM2.out.trans (Mod.ofBelow hb3))
  obtain ⟨z0, z1, z2, z3, z4, z5, z6⟩ := JobRow.cells HR3.out
  obtain ⟨nb, hnb⟩ : ∃ nb, (bytesL j).length = nb := ⟨_, rfl⟩
  rw [hnb] at HO3 ⊢
  have HNb := Lib.hid hnb
  clear ho3 hb3 hnb x0 x1 x2 x3 x4 x5 x6 HBy
  have hsn := HTi.out.sn
  have HSn := Lib.hid hsn
  have HO3a := Lib.hid (HO3.out.alloc (.cells #[] 37))
  have HMe : Hid (Mod [] w3 (w3.alloc (.cells #[] 37))) := Lib.hid ((Mod.refl [] w3).alloc _)
  have HSrc := Lib.hid (Src.ofSt ((HJ.out.quiet (HM3.out.trans HMe.out)).sts) j.sts.length p.sc rfl)
  have HEm := Lib.hid (owns_emptySt w3 HM3.out.size)
  have zz := (JobRow.cells (HMe.out.row HR3.out (by simp))).2.2.2.2.2.1
  clear hsn
  go_wp2_with (at_builtin; refine wpList_appC _ rfl _ _ 25 rfl 37 _ 4 32 Tryd.underlying25 infoSt (by rfl) (by decide) w.heap.size _ 0 [] rfl HEm.out _ j.sts.length (rowC stC j.sts) rfl HSrc.out (by have := HLt.out.sn; omega) (Nat.le_trans HM3.out.size HMe.out.size) ?_)
  intro v4 w4 k1 k2 k3
  have hm34 : Mod [] w3 w4 := HMe.out.trans' k2 (by intro x hx; right; simp [Value.ownBlock] at hx; omega)
  have k1 : w4.ownsRow w.heap.size 37 4 v4 j.sts.length (rowC stC j.sts) := by simpa using k1
  obtain ⟨a4, c4, hv4, -, -⟩ := owns_shape k1
  subst hv4
  have HL4 : Hid (LW w w4 w.heap.size j p (.slice a3 nb c3) (bytesL j) (.slice a4 j.sts.length c4) j.sts) := Lib.hid ⟨HO3.out.quiet hm34, k1, hm34.row HR3.out (by simp)⟩
  have HHm : Hid (w4.heap[w.heap.size]? = some (.cells (jbC j p) 28 (0, 0))) := Lib.hid (hm34.row HR3.out (by simp))
  clear k1 k2 k3 hm34 z0 z1 z2 z3 z4 z5 z6 zz HO3a HMe HSrc HEm
  have hnb8 : (nb : Int) ≤ 1000000 := by
    have h1 := flL_len HTi.out []
    rw [flL_nil, HNb.out] at h1
    have h2 := ssOf_len j j.sts.length
    have := HLt.out.sn
    simp at h1; omega
  have hcx : ∃ cx : Int, cx = (if cut < (nb : Int) then 1099511627776 else cut) := ⟨_, rfl⟩
  obtain ⟨cx, hcx⟩ := hcx
  have HCx : Hid ((nb : Int) ≤ cx ∧ cx ≤ 9223372036854775807) := Lib.hid (by rw [hcx]; split <;> have := HCut.out <;> omega)
  have HB8 := Lib.hid hnb8
  have HStart : Hid (CutAt j [] cx 0) := Lib.hid (CutAt.start (by rw [HNb.out]; exact HCx.out.1))
  have HIn : Hid (∀ W, Below w.heap.size w W → JobAt W j p ∧ CellsI W a1 ts ∧ CellsSt W a2 ss ∧ Halves W) := Lib.hid (fun W hb => ⟨HJ.out.quiet (Mod.ofBelow hb), HT1.out.quiet (Mod.ofBelow hb), HS2.out.quiet stC_size (Mod.ofBelow hb), HHv.out.old hb⟩)
  obtain ⟨N, hN⟩ : ∃ N, j.to.length = N := ⟨_, rfl⟩
  have HN := Lib.hid hN
  have HN20 : Hid (N ≤ 20) := Lib.hid (by rw [← hN]; exact HTi.out.n.2)
  obtain ⟨sl, hsl⟩ : ∃ sl, j.sts.length = sl := ⟨_, rfl⟩
  have HSl := Lib.hid hsl
  have HSlN : Hid (sl = N) := Lib.hid (by rw [← hsl, ← hN]; exact HSn.out)
  rw [hsl] at HL4 ⊢
  have HFlen := Lib.hid (fun st : List (Nat × JSt) => show (flL j st).length ≤ 100000 + 47 * st.length by
    have h1 := flL_len HTi.out st
    have h2 := ssOf_len j j.sts.length
    have := HLt.out.sn
    omega)
  have HFb := Lib.hid (fun (k : Nat) => show Bytes (flL j (stOf N ts ss k)) by
    unfold flL
    refine rowL_bytes (fileK_ok HTi.out HJ.out.body.1 ?_)
    intro x hx
    rcases List.mem_append.1 hx with hx | hx
    · exact ssOf_ok HTi.out x hx
    · rw [HN.out]; exact stOf_ok N ts ss k x hx)
  have h64 : ∀ (b : Bool), True := fun _ => trivial
  clear h64 hN hsl hnb8
  have HL4' : Hid (LW w w4 w.heap.size j p (.slice a3 nb c3) (flL j (stOf N ts ss 0)) (.slice a4 sl c4) (app j.sts ((stOf N ts ss 0).take 0))) := Lib.hid (by
    have h := HL4.out
    rw [← flL_nil] at h
    exact h)
  by_cases hcc : cut < (nb : Int)
  · rw [if_pos hcc] at hcx
    go_wp2_with fail
    rw [← hcx]
    have HCxe := Lib.hid hcx
    clear hcx hcc
    go_loopw [12, 14] (fun u v wr => ∃ (k m : Nat) (a : Option Addr) (n c : Nat), u = .slice a n c ∧ v = .int .i64 k ∧ (k ≤ n1 ∧ k ≤ n2) ∧ n = (flL j (stOf N ts ss k)).length ∧ CutAt j (stOf N ts ss k) cx m ∧ LW w wr w.heap.size j p (.slice a n c) (flL j (stOf N ts ss k)) (.slice a4 sl c4) (app j.sts ((stOf N ts ss k).take m))) (fun _ v _ => n1 - (intOf v).toNat)
    case atStart => exact ⟨0, 0, a3, nb, c3, rfl, rfl, ⟨Nat.zero_le _, Nat.zero_le _⟩, by rw [show stOf N ts ss 0 = [] from rfl, flL_nil]; exact HNb.out.symm, HStart.out, HL4'.out⟩
    case round =>
      obtain ⟨k, m, a, n, c, rfl, rfl, hk, hn, hcut, hlw⟩ := hrel
      have HCA := Lib.hid hcut
      have HLW := Lib.hid hlw
      have HNn := Lib.hid hn
      have HKl := Lib.hid hk
      clear hcut hlw hn hk
      by_cases hlt : k < n1 ∧ k < n2
      · have hl1 : (k : Int) < (n1 : Int) := by omega
        have hl2 : (k : Int) < (n2 : Int) := by omega
        have hk1 : k < ts.length := by rw [← HN1.out]; exact hlt.1
        have hk2 : k < ss.length := by rw [← HN2.out]; exact hlt.2
        obtain ⟨tb, to, rfl, -⟩ := HT1.out.addr (by omega)
        obtain ⟨sb, so, rfl, -⟩ := HS2.out.addr stC_size (by decide) (by omega)
        have hix1 := ixa (P := Tryd.prog) 29 3 Tryd.underlying29 1 Tryd.sizeOf3 (some ⟨tb, to, none⟩) tb to n1 c1 k rfl hlt.1
        rw [Nat.mul_one] at hix1
        have hix2 := ixa (P := Tryd.prog) 25 37 Tryd.underlying25 4 sizeSt (some ⟨sb, so, none⟩) sb so n2 c2 k rfl hlt.2
        obtain ⟨t, htk⟩ : ∃ t, ts.getD k 0 = t := ⟨_, rfl⟩
        obtain ⟨x, hxk⟩ : ∃ x, ss[k] = x := ⟨_, rfl⟩
        have hxd : ss.getD k default = x := by simp [List.getD, hk2, hxk]
        have htb : -9223372036854775808 ≤ t ∧ t ≤ 9223372036854775807 := HTb.out t (by rw [← htk]; simp [List.getD, hk1])
        have HSucc := Lib.hid (show stOf N ts ss (k + 1) = stOf N ts ss k ++ stA N t x by rw [stOf_succ, htk, hxd])
        have HC : Hid (∀ W, Below w.heap.size w W → W.cell? ⟨tb, to + k, none⟩ = some (.int .i64 t) ∧ W.cell? ⟨sb, so + k * 4, none⟩ = some (.int .i64 x.st) ∧ W.cell? ⟨sb, so + k * 4 + 1, none⟩ = some (.int .i64 x.tries) ∧ W.cell? ⟨sb, so + k * 4 + 2, none⟩ = some (.int .i64 x.due) ∧ W.cell? ⟨sb, so + k * 4 + 3, none⟩ = some (.int .i64 x.code)) := Lib.hid (fun W hb => by
          obtain ⟨_, i1, i2, _⟩ := HIn.out W hb
          have e1 := i1.at k hk1
          have e2 := i2.row k hk2
          rw [htk] at e1
          rw [hxk] at e2
          exact ⟨e1, e2⟩)
        have HLtk := Lib.hid hlt
        have HStp := Lib.hid (fun W (h : Below w.heap.size w W) => step_any t x W (HIn.out W h).2.2.2)
        unfold NewBE at HStp
        have HBw := Lib.hid HLW.out.own.below.drew
        clear htk hxk hxd hk1 hk2 hlt
        go_wp2_with fail
        by_cases he : stepE t x = 0
        · have hso := stepE_ok he
          obtain ⟨tn, rfl⟩ : ∃ tn : Nat, t = (tn : Int) := Int.eq_ofNat_of_zero_le hso.1.1
          have hsr : stepR tn x = wrapL 18 (spL tn x) := by unfold stepR; rw [if_pos he]
          rw [hsr, he] at HStp
          have HHe := Lib.hid he
          have HSx := Lib.hid hso.2
          clear he hsr hso htb
          by_cases htn : tn < N
          · have htn1 : ¬ (N : Int) ≤ (tn : Int) := by omega
            have HSt2 := Lib.hid (show stOf N ts ss (k + 1) = stOf N ts ss k ++ [(tn, x)] by
              rw [HSucc.out]; unfold stA; rw [if_pos ⟨HHe.out, by omega⟩]; simp)
            have HL2 := Lib.hid (show flL j (stOf N ts ss (k + 1)) = flL j (stOf N ts ss k) ++ wrapL 18 (spL tn x) by rw [HSt2.out, flL_snoc])
            have HTn := Lib.hid htn
            have HWl := Lib.hid (wrap18_len tn x).2
            have HWb := Lib.hid (wrapL_bytes 18 (spL_bytes tn x))
            have HB2 := Lib.hid (HFb.out (k + 1))
            have HCA2 := Lib.hid (fun h => (HSt2.out ▸ HCA.out.more (tn, x) (by rw [← HSt2.out]; exact h) : CutAt j (stOf N ts ss (k + 1)) cx (m + 1) ∧ (stOf N ts ss (k + 1)).take (m + 1) = (stOf N ts ss k).take m ++ [(tn, x)]))
            have HCA3 := Lib.hid (fun h => (HSt2.out ▸ HCA.out.past (tn, x) (by rw [← HSt2.out]; exact h) : CutAt j (stOf N ts ss (k + 1)) cx m ∧ (stOf N ts ss (k + 1)).take m = (stOf N ts ss k).take m))
            have HFl := Lib.hid (HFlen.out (stOf N ts ss k))
            have HStl := Lib.hid (stOf_len N ts ss k)
            obtain ⟨L2, hL2⟩ : ∃ L2, flL j (stOf N ts ss (k + 1)) = L2 := ⟨_, rfl⟩
            obtain ⟨LS, hLS⟩ : ∃ LS, wrapL 18 (spL tn x) = LS := ⟨_, rfl⟩
            rw [hL2] at HL2 HB2 HCA2 HCA3
            rw [hLS] at HL2 HStp HWl HWb
            have HL2e := Lib.hid hL2
            clear htn hL2 hLS
            refine wp_region_held_drew (S := (fun W => W.cell? ⟨tb, to + k, none⟩ = some (.int .i64 (tn : Int)) ∧ W.cell? ⟨sb, so + k * 4, none⟩ = some (.int .i64 x.st) ∧ W.cell? ⟨sb, so + k * 4 + 1, none⟩ = some (.int .i64 x.tries) ∧ W.cell? ⟨sb, so + k * 4 + 2, none⟩ = some (.int .i64 x.due) ∧ W.cell? ⟨sb, so + k * 4 + 3, none⟩ = some (.int .i64 x.code))) (by kernel_rfl) (HC.out _ HBw.out) (fun hHeld => ?_)
            refine wpAnyH_take (i := 0) (oi := ?_) (v := ?_) ?_ (by kernel_rfl) (by kernel_rfl) (by kernel_rfl) ?_ (Or.inl ⟨?_, ?_⟩) hHeld ?_
            rotate_left 2
            · simp only [List.getElem?_toArray, List.getElem?_cons_succ, List.getElem?_cons_zero]; rfl
            · exact fun _ _ _ h => h
            · rfl
            · intro w hSw; (try dsimp only at hSw); go_simp; try (with_reducible rfl)
            try simp only [Act.put, List.setIfInBounds_toArray, List.set_cons_zero, List.set_cons_succ]
            refine wpAnyH_take (i := 1) (oi := ?_) (v := ?_) ?_ (by kernel_rfl) (by kernel_rfl) (by kernel_rfl) ?_ (Or.inl ⟨?_, ?_⟩) hHeld ?_
            rotate_left 2
            · simp only [List.getElem?_toArray, List.getElem?_cons_succ, List.getElem?_cons_zero]; rfl
            · exact fun _ _ _ h => h
            · rfl
            · intro w hSw; (try dsimp only at hSw); go_simp; try (with_reducible rfl)
            try simp only [Act.put, List.setIfInBounds_toArray, List.set_cons_zero, List.set_cons_succ]
            refine wpAnyH_take (i := 2) (oi := ?_) (v := ?_) ?_ (by kernel_rfl) (by kernel_rfl) (by kernel_rfl) ?_ (Or.inl ⟨?_, ?_⟩) hHeld ?_
            rotate_left 2
            · simp only [List.getElem?_toArray, List.getElem?_cons_succ, List.getElem?_cons_zero]; rfl
            · exact fun _ _ _ h => h
            · rfl
            · intro w hSw; (try dsimp only at hSw); go_simp; try (with_reducible rfl)
            try simp only [Act.put, List.setIfInBounds_toArray, List.set_cons_zero, List.set_cons_succ]
            refine wpAnyH_take (i := 3) (oi := ?_) (v := ?_) ?_ (by kernel_rfl) (by kernel_rfl) (by kernel_rfl) ?_ (Or.inl ⟨?_, ?_⟩) hHeld ?_
            rotate_left 2
            · simp only [List.getElem?_toArray, List.getElem?_cons_succ, List.getElem?_cons_zero]; rfl
            · exact fun _ _ _ h => h
            · rfl
            · intro w hSw; (try dsimp only at hSw); go_simp; try (with_reducible rfl)
            try simp only [Act.put, List.setIfInBounds_toArray, List.set_cons_zero, List.set_cons_succ]
            refine wpAnyH_take (i := 4) (oi := ?_) (v := ?_) ?_ (by kernel_rfl) (by kernel_rfl) (by kernel_rfl) ?_ (Or.inl ⟨?_, ?_⟩) hHeld ?_
            rotate_left 2
            · simp only [List.getElem?_toArray, List.getElem?_cons_succ, List.getElem?_cons_zero]; rfl
            · exact fun _ _ _ h => h
            · rfl
            · intro w hSw; (try dsimp only at hSw); go_simp; try (with_reducible rfl)
            try simp only [Act.put, List.setIfInBounds_toArray, List.set_cons_zero, List.set_cons_succ]
            refine wpAnyH_take (i := 5) (oi := ?_) (v := ?_) ?_ (by kernel_rfl) (by kernel_rfl) (by kernel_rfl) ?_ (Or.inl ⟨?_, ?_⟩) hHeld ?_
            rotate_left 2
            · simp only [List.getElem?_toArray, List.getElem?_cons_succ, List.getElem?_cons_zero]; rfl
            · exact fun _ _ _ h => h
            · rfl
            · intro w hSw; (try dsimp only at hSw); go_simp; try (with_reducible rfl)
            try simp only [Act.put, List.setIfInBounds_toArray, List.set_cons_zero, List.set_cons_succ]
            refine wpAnyH_take (i := 6) (oi := ?_) (v := ?_) ?_ (by kernel_rfl) (by kernel_rfl) (by kernel_rfl) ?_ (Or.inl ⟨?_, ?_⟩) hHeld ?_
            rotate_left 2
            · simp only [List.getElem?_toArray, List.getElem?_cons_succ, List.getElem?_cons_zero]; rfl
            · exact fun _ _ _ h => h
            · rfl
            · intro w hSw; (try dsimp only at hSw); go_simp; try (with_reducible rfl)
            try simp only [Act.put, List.setIfInBounds_toArray, List.set_cons_zero, List.set_cons_succ]
            refine wpAnyH_take (i := 7) (oi := ?_) (v := ?_) ?_ (by kernel_rfl) (by kernel_rfl) (by kernel_rfl) ?_ (Or.inl ⟨?_, ?_⟩) hHeld ?_
            rotate_left 2
            · simp only [List.getElem?_toArray, List.getElem?_cons_succ, List.getElem?_cons_zero]; rfl
            · exact fun _ _ _ h => h
            · rfl
            · intro w hSw; (try dsimp only at hSw); go_simp; try (with_reducible rfl)
            try simp only [Act.put, List.setIfInBounds_toArray, List.set_cons_zero, List.set_cons_succ]
            refine wpAnyH_ready (rs := [8]) (by kernel_rfl) (by simp) ?_
            refine AllReadyH.cons (o := ?_) ?_ (fun K hK => ?_) ?_
            rotate_left
            · simp only [List.getElem?_toArray, List.getElem?_cons_succ, List.getElem?_cons_zero]; rfl
            · go_simp
              go_at_call 9
              refine (HStp.out _ HBw.out).mono ?_
              rintro e w5 ⟨a5, c5, rfl, ho5, hb5⟩
              have HBw5 := Lib.hid (HBw.out.trans (hb5.mono HLW.out.own.size))
              have HLW5 := Lib.hid ((HLW.out.quiet ((Mod.refl [] wr).drew)).quiet (Mod.ofBelow hb5))
              have HCs5 := Lib.hid (Cells8.ofOwns HWb.out ho5)
              obtain ⟨ns5, hns5⟩ : ∃ ns5, LS.length = ns5 := ⟨_, rfl⟩
              rw [hns5]
              have HNs5 := Lib.hid hns5.symm
              clear hns5
              clear ho5 hb5
              go_simp
              refine hK.out _ _ (HC.out _ HBw5.out) ?_
              clear hK K hHeld
              intro hHeld
              try simp only [Act.put, List.setIfInBounds_toArray, List.set_cons_zero, List.set_cons_succ]
              refine wpAnyH_take (i := 9) (oi := ?_) (v := ?_) ?_ (by kernel_rfl) (by kernel_rfl) (by kernel_rfl) ?_ (Or.inl ⟨?_, ?_⟩) hHeld ?_
              rotate_left 2
              · simp only [List.getElem?_toArray, List.getElem?_cons_succ, List.getElem?_cons_zero]; rfl
              · exact fun _ _ _ h => h
              · rfl
              · intro w hSw; (try dsimp only at hSw); go_simp; try (with_reducible rfl)
              try simp only [Act.put, List.setIfInBounds_toArray, List.set_cons_zero, List.set_cons_succ]
              refine wpAnyH_take (i := 10) (oi := ?_) (v := ?_) ?_ (by kernel_rfl) (by kernel_rfl) (by kernel_rfl) ?_ (Or.inl ⟨?_, ?_⟩) hHeld ?_
              rotate_left 2
              · simp only [List.getElem?_toArray, List.getElem?_cons_succ, List.getElem?_cons_zero]; rfl
              · exact fun _ _ _ h => h
              · rfl
              · intro w hSw; (try dsimp only at hSw); go_simp; try (with_reducible rfl)
              try simp only [Act.put, List.setIfInBounds_toArray, List.set_cons_zero, List.set_cons_succ]
              refine wpAnyH_take (i := 11) (oi := ?_) (v := ?_) ?_ (by kernel_rfl) (by kernel_rfl) (by kernel_rfl) ?_ (Or.inl ⟨?_, ?_⟩) hHeld ?_
              rotate_left 2
              · simp only [List.getElem?_toArray, List.getElem?_cons_succ, List.getElem?_cons_zero]; rfl
              · exact fun _ _ _ h => h
              · rfl
              · intro w hSw; (try dsimp only at hSw); go_simp; try (with_reducible rfl)
              try simp only [Act.put, List.setIfInBounds_toArray, List.set_cons_zero, List.set_cons_succ]
              refine wpAnyH_take (i := 12) (oi := ?_) (v := ?_) ?_ (by kernel_rfl) (by kernel_rfl) (by kernel_rfl) ?_ (Or.inl ⟨?_, ?_⟩) hHeld ?_
              rotate_left 2
              · simp only [List.getElem?_toArray, List.getElem?_cons_succ, List.getElem?_cons_zero]; rfl
              · exact fun _ _ _ h => h
              · rfl
              · intro w hSw; (try dsimp only at hSw); go_simp; try (with_reducible rfl)
              try simp only [Act.put, List.setIfInBounds_toArray, List.set_cons_zero, List.set_cons_succ]
              refine wpAnyH_take (i := 13) (oi := ?_) (v := ?_) ?_ (by kernel_rfl) (by kernel_rfl) (by kernel_rfl) ?_ (Or.inl ⟨?_, ?_⟩) hHeld ?_
              rotate_left 2
              · simp only [List.getElem?_toArray, List.getElem?_cons_succ, List.getElem?_cons_zero]; rfl
              · exact fun _ _ _ h => h
              · rfl
              · intro w hSw; (try dsimp only at hSw); go_simp; try (with_reducible rfl)
              try simp only [Act.put, List.setIfInBounds_toArray, List.set_cons_zero, List.set_cons_succ]
              refine wpAnyH_done (by kernel_rfl) ?_ _
              go_wp2_with fail
              have q0 := (HC.out _ HBw5.out.drew).1
              have q1 : w5.drew.cell? ⟨w.heap.size, 4, none⟩ = some (.slice p.ta N p.tc) := by
                have h := blk_cell (blk_drew HLW5.out.row) 4
                rw [h, ← HN.out]; rfl
              go_region_held3 (fun W => W.cell? ⟨tb, to + k, none⟩ = some (.int .i64 tn) ∧ W.cell? ⟨w.heap.size, 4, none⟩ = some (.slice p.ta N p.tc)) (first | exact ⟨q0, q1⟩ | assumption | go_keep) (fail)
              have HLWd := Lib.hid (HLW5.out.quiet ((Mod.refl [] w5).drew))
              have HC5 := Lib.hid (HCs5.out.mod ((Mod.refl [] w5).drew) (by simp))
              go_wp2_with (at_builtin; refine wpList_append8 _ rfl _ _ 26 26 rfl 5 Tryd.underlying26 Tryd.info8 _ (flL j (stOf N ts ss k)) rfl HLWd.out.own.base _ _ LS rfl (Src.of8 HC5.out Tryd.underlying26 _ _ HNs5.out) (by have := HFl.out; have := HStl.out; have := HWl.out; have := HLtk.out; have := HG1.out; omega) L2 HL2.out ?_)
              intro v6 w6 hg6
              have hlw6 := HLWd.out.grew hg6 HB2.out
              obtain ⟨a6, c6, rfl⟩ := hlw6.own.shape
              have HLW6 := Lib.hid hlw6
              clear hg6 hlw6
              obtain ⟨n6, hn6⟩ : ∃ n6, L2.length = n6 := ⟨_, rfl⟩
              rw [hn6] at HLW6 HCA2 HCA3 ⊢
              have HN6 := Lib.hid hn6
              clear hn6
              by_cases hle : (n6 : Int) ≤ cx
              · have HCAy := Lib.hid (HCA2.out hle)
                have HBw6 := Lib.hid HLW6.out.own.below.drew
                have HLWq := Lib.hid (HLW6.out.quiet ((Mod.refl [] w6).drew))
                have hal : (app j.sts ((stOf N ts ss k).take m)).length = sl := by rw [app_length]; exact HSl.out
                have HTs : Hid (tn < (app j.sts ((stOf N ts ss k).take m)).length) := Lib.hid (by rw [hal, HSlN.out]; exact HTn.out)
                have hwant := HLWq.out.want
                rw [hal] at hwant
                obtain ⟨g4, hg4⟩ : ∃ g4, a4 = some ⟨g4, 0, none⟩ := by
                  rcases hwant.2 with ⟨h1, h2⟩ | ⟨g', c', cur, hv, _⟩
                  · have := HTn.out; have := HSlN.out; omega
                  · simp only [Value.slice.injEq] at hv
                    exact ⟨g', hv.1⟩
                subst hg4
                obtain ⟨cur, hcur⟩ := owns_isT hwant rfl
                have hcells := CellsK.ofOwns stC_size (by decide) hwant hal.symm
                have hrow4 := CellsSt.row hcells tn HTs.out
                rw [Nat.zero_add] at hrow4
                obtain ⟨t0, t1, t2, t3⟩ := hrow4
                have HIs : Hid (∀ j, j < (stC x).toList.length → (w6.drew.cell? ⟨g4, tn * 4 + 0 + j, none⟩).isSome = true) := Lib.hid (fun j hj => by
                  have hj : j < 4 := hj
                  match j, hj with
                  | 0, _ => simpa using congrArg Option.isSome t0
                  | 1, _ => simpa using congrArg Option.isSome t1
                  | 2, _ => simpa using congrArg Option.isSome t2
                  | 3, _ => simpa using congrArg Option.isSome t3)
                have HFz : Hid (∀ j, j < (stC x).toList.length → w6.drew.frozen? ⟨g4, tn * 4 + 0 + j, none⟩ = false) := Lib.hid (fun j _ => blk_free hcur _)
                have hix3 := ixa (P := Tryd.prog) 25 37 Tryd.underlying25 4 sizeSt (some ⟨g4, 0, none⟩) g4 0 sl c4 tn rfl (by rw [HSlN.out]; exact HTn.out)
                simp only [Nat.zero_add] at hix3
                have HLWs := Lib.hid (HLWq.out.set hal.symm tn HTs.out x)
                clear t0 t1 t2 t3 hcells hcur hwant hal
                go_wp2_with fail
                refine region_J (S := (fun W => W.cell? ⟨tb, to + k, none⟩ = some (.int .i64 (tn : Int)) ∧ W.cell? ⟨sb, so + k * 4, none⟩ = some (.int .i64 x.st) ∧ W.cell? ⟨sb, so + k * 4 + 1, none⟩ = some (.int .i64 x.tries) ∧ W.cell? ⟨sb, so + k * 4 + 2, none⟩ = some (.int .i64 x.due) ∧ W.cell? ⟨sb, so + k * 4 + 3, none⟩ = some (.int .i64 x.code))) (k := 10) (by kernel_rfl) (HC.out _ HBw6.out) (fun hHeld => ?_)
                refine anyJ.take3 (i := 0) (oi := ?_) (v := ?_) ?_ (by kernel_rfl) (by kernel_rfl) (by kernel_rfl) (by kernel_rfl) ?_ (Or.inl ⟨?_, ?_⟩) hHeld ?_
                rotate_left 2
                · simp only [List.getElem?_toArray, List.getElem?_cons_succ, List.getElem?_cons_zero]; rfl
                · exact fun _ _ _ h => h
                · rfl
                · intro w hSw; (try dsimp only at hSw); go_simp; try (with_reducible rfl)
                try simp only [Act.put, List.setIfInBounds_toArray, List.set_cons_zero, List.set_cons_succ]
                refine anyJ.take3 (i := 1) (oi := ?_) (v := ?_) ?_ (by kernel_rfl) (by kernel_rfl) (by kernel_rfl) (by kernel_rfl) ?_ (Or.inl ⟨?_, ?_⟩) hHeld ?_
                rotate_left 2
                · simp only [List.getElem?_toArray, List.getElem?_cons_succ, List.getElem?_cons_zero]; rfl
                · exact fun _ _ _ h => h
                · rfl
                · intro w hSw; (try dsimp only at hSw); go_simp; try (with_reducible rfl)
                try simp only [Act.put, List.setIfInBounds_toArray, List.set_cons_zero, List.set_cons_succ]
                refine anyJ.take3 (i := 2) (oi := ?_) (v := ?_) ?_ (by kernel_rfl) (by kernel_rfl) (by kernel_rfl) (by kernel_rfl) ?_ (Or.inl ⟨?_, ?_⟩) hHeld ?_
                rotate_left 2
                · simp only [List.getElem?_toArray, List.getElem?_cons_succ, List.getElem?_cons_zero]; rfl
                · exact fun _ _ _ h => h
                · rfl
                · intro w hSw; (try dsimp only at hSw); go_simp; try (with_reducible rfl)
                try simp only [Act.put, List.setIfInBounds_toArray, List.set_cons_zero, List.set_cons_succ]
                refine anyJ.take3 (i := 3) (oi := ?_) (v := ?_) ?_ (by kernel_rfl) (by kernel_rfl) (by kernel_rfl) (by kernel_rfl) ?_ (Or.inl ⟨?_, ?_⟩) hHeld ?_
                rotate_left 2
                · simp only [List.getElem?_toArray, List.getElem?_cons_succ, List.getElem?_cons_zero]; rfl
                · exact fun _ _ _ h => h
                · rfl
                · intro w hSw; (try dsimp only at hSw); go_simp; try (with_reducible rfl)
                try simp only [Act.put, List.setIfInBounds_toArray, List.set_cons_zero, List.set_cons_succ]
                refine anyJ.take3 (i := 4) (oi := ?_) (v := ?_) ?_ (by kernel_rfl) (by kernel_rfl) (by kernel_rfl) (by kernel_rfl) ?_ (Or.inl ⟨?_, ?_⟩) hHeld ?_
                rotate_left 2
                · simp only [List.getElem?_toArray, List.getElem?_cons_succ, List.getElem?_cons_zero]; rfl
                · exact fun _ _ _ h => h
                · rfl
                · intro w hSw; (try dsimp only at hSw); go_simp; try (with_reducible rfl)
                try simp only [Act.put, List.setIfInBounds_toArray, List.set_cons_zero, List.set_cons_succ]
                refine anyJ.take3 (i := 5) (oi := ?_) (v := ?_) ?_ (by kernel_rfl) (by kernel_rfl) (by kernel_rfl) (by kernel_rfl) ?_ (Or.inl ⟨?_, ?_⟩) hHeld ?_
                rotate_left 2
                · simp only [List.getElem?_toArray, List.getElem?_cons_succ, List.getElem?_cons_zero]; rfl
                · exact fun _ _ _ h => h
                · rfl
                · intro w hSw; (try dsimp only at hSw); go_simp; try (with_reducible rfl)
                try simp only [Act.put, List.setIfInBounds_toArray, List.set_cons_zero, List.set_cons_succ]
                refine anyJ.take3 (i := 6) (oi := ?_) (v := ?_) ?_ (by kernel_rfl) (by kernel_rfl) (by kernel_rfl) (by kernel_rfl) ?_ (Or.inl ⟨?_, ?_⟩) hHeld ?_
                rotate_left 2
                · simp only [List.getElem?_toArray, List.getElem?_cons_succ, List.getElem?_cons_zero]; rfl
                · exact fun _ _ _ h => h
                · rfl
                · intro w hSw; (try dsimp only at hSw); go_simp; try (with_reducible rfl)
                try simp only [Act.put, List.setIfInBounds_toArray, List.set_cons_zero, List.set_cons_succ]
                refine anyJ.take3 (i := 7) (oi := ?_) (v := ?_) ?_ (by kernel_rfl) (by kernel_rfl) (by kernel_rfl) (by kernel_rfl) ?_ (Or.inl ⟨?_, ?_⟩) hHeld ?_
                rotate_left 2
                · simp only [List.getElem?_toArray, List.getElem?_cons_succ, List.getElem?_cons_zero]; rfl
                · exact fun _ _ _ h => h
                · rfl
                · intro w hSw; (try dsimp only at hSw); go_simp; try (with_reducible rfl)
                try simp only [Act.put, List.setIfInBounds_toArray, List.set_cons_zero, List.set_cons_succ]
                refine anyJ.take3 (i := 8) (oi := ?_) (v := ?_) ?_ (by kernel_rfl) (by kernel_rfl) (by kernel_rfl) (by kernel_rfl) ?_ (Or.inl ⟨?_, ?_⟩) hHeld ?_
                rotate_left 2
                · simp only [List.getElem?_toArray, List.getElem?_cons_succ, List.getElem?_cons_zero]; rfl
                · exact fun _ _ _ h => h
                · rfl
                · intro w hSw; (try dsimp only at hSw); go_simp; try (with_reducible rfl)
                try simp only [Act.put, List.setIfInBounds_toArray, List.set_cons_zero, List.set_cons_succ]
                refine anyJ.take3 (i := 9) (oi := ?_) (v := ?_) ?_ (by kernel_rfl) (by kernel_rfl) (by kernel_rfl) (by kernel_rfl) ?_ (Or.inl ⟨?_, ?_⟩) hHeld ?_
                rotate_left 2
                · simp only [List.getElem?_toArray, List.getElem?_cons_succ, List.getElem?_cons_zero]; rfl
                · exact fun _ _ _ h => h
                · rfl
                · intro w hSw; (try dsimp only at hSw); go_simp; try (with_reducible rfl)
                try simp only [Act.put, List.setIfInBounds_toArray, List.set_cons_zero, List.set_cons_succ]
                refine anyJ.ready (rs := [10]) (by kernel_rfl) (by simp) ?_
                refine AllJ.last (o := ?_) ?_ (fun K hK => ?_)
                rotate_left
                · simp only [List.getElem?_toArray, List.getElem?_cons_succ, List.getElem?_cons_zero]; rfl
                · refine step_store_at rfl _ _ _ rfl rfl g4 (tn * 4) (stC x) (by rfl) (by rfl) st_size (st_one _) HIs.out HFz.out ?_
                  go_simp
                  refine hK.out _ _ ?_
                  clear hK K
                  try simp only [Act.put, List.setIfInBounds_toArray, List.set_cons_zero, List.set_cons_succ]
                  refine anyJ.done (by kernel_rfl) ?_ _
                  go_wp2_with fail
                  go_roundw
                  case rel => exact ⟨k + 1, m + 1, a6, n6, c6, rfl, by go_num, by have := HLtk.out; omega, by rw [HL2e.out]; exact HN6.out.symm, HCAy.out.1, by rw [HL2e.out, HCAy.out.2, app_snoc]; exact HLWs.out⟩
                  case measure => have := HLtk.out; simp [intOf]; omega
              · have hlt6 : ¬ (n6 : Int) ≤ cx := hle
                have HCAn := Lib.hid (HCA3.out (by omega))
                clear hle
                go_wp2_with fail
                go_roundw
                case rel => exact ⟨k + 1, m, a6, n6, c6, rfl, by go_num, by have := HLtk.out; omega, by rw [HL2e.out]; exact HN6.out.symm, HCAn.out.1, by rw [HL2e.out, HCAn.out.2]; exact HLW6.out⟩
                case measure => have := HLtk.out; simp [intOf]; omega
            exact AllReadyH.nil
          · have htn1 : (N : Int) ≤ (tn : Int) := by omega
            have HSt2 := Lib.hid (show stOf N ts ss (k + 1) = stOf N ts ss k by
              rw [HSucc.out]; unfold stA; rw [if_neg (fun h => htn (by have := h.2; omega)), List.append_nil])
            clear htn
            refine wp_region_held_drew (S := (fun W => W.cell? ⟨tb, to + k, none⟩ = some (.int .i64 (tn : Int)) ∧ W.cell? ⟨sb, so + k * 4, none⟩ = some (.int .i64 x.st) ∧ W.cell? ⟨sb, so + k * 4 + 1, none⟩ = some (.int .i64 x.tries) ∧ W.cell? ⟨sb, so + k * 4 + 2, none⟩ = some (.int .i64 x.due) ∧ W.cell? ⟨sb, so + k * 4 + 3, none⟩ = some (.int .i64 x.code))) (by kernel_rfl) (HC.out _ HBw.out) (fun hHeld => ?_)
            refine wpAnyH_take (i := 0) (oi := ?_) (v := ?_) ?_ (by kernel_rfl) (by kernel_rfl) (by kernel_rfl) ?_ (Or.inl ⟨?_, ?_⟩) hHeld ?_
            rotate_left 2
            · simp only [List.getElem?_toArray, List.getElem?_cons_succ, List.getElem?_cons_zero]; rfl
            · exact fun _ _ _ h => h
            · rfl
            · intro w hSw; (try dsimp only at hSw); go_simp; try (with_reducible rfl)
            try simp only [Act.put, List.setIfInBounds_toArray, List.set_cons_zero, List.set_cons_succ]
            refine wpAnyH_take (i := 1) (oi := ?_) (v := ?_) ?_ (by kernel_rfl) (by kernel_rfl) (by kernel_rfl) ?_ (Or.inl ⟨?_, ?_⟩) hHeld ?_
            rotate_left 2
            · simp only [List.getElem?_toArray, List.getElem?_cons_succ, List.getElem?_cons_zero]; rfl
            · exact fun _ _ _ h => h
            · rfl
            · intro w hSw; (try dsimp only at hSw); go_simp; try (with_reducible rfl)
            try simp only [Act.put, List.setIfInBounds_toArray, List.set_cons_zero, List.set_cons_succ]
            refine wpAnyH_take (i := 2) (oi := ?_) (v := ?_) ?_ (by kernel_rfl) (by kernel_rfl) (by kernel_rfl) ?_ (Or.inl ⟨?_, ?_⟩) hHeld ?_
            rotate_left 2
            · simp only [List.getElem?_toArray, List.getElem?_cons_succ, List.getElem?_cons_zero]; rfl
            · exact fun _ _ _ h => h
            · rfl
            · intro w hSw; (try dsimp only at hSw); go_simp; try (with_reducible rfl)
            try simp only [Act.put, List.setIfInBounds_toArray, List.set_cons_zero, List.set_cons_succ]
            refine wpAnyH_take (i := 3) (oi := ?_) (v := ?_) ?_ (by kernel_rfl) (by kernel_rfl) (by kernel_rfl) ?_ (Or.inl ⟨?_, ?_⟩) hHeld ?_
            rotate_left 2
            · simp only [List.getElem?_toArray, List.getElem?_cons_succ, List.getElem?_cons_zero]; rfl
            · exact fun _ _ _ h => h
            · rfl
            · intro w hSw; (try dsimp only at hSw); go_simp; try (with_reducible rfl)
            try simp only [Act.put, List.setIfInBounds_toArray, List.set_cons_zero, List.set_cons_succ]
            refine wpAnyH_take (i := 4) (oi := ?_) (v := ?_) ?_ (by kernel_rfl) (by kernel_rfl) (by kernel_rfl) ?_ (Or.inl ⟨?_, ?_⟩) hHeld ?_
            rotate_left 2
            · simp only [List.getElem?_toArray, List.getElem?_cons_succ, List.getElem?_cons_zero]; rfl
            · exact fun _ _ _ h => h
            · rfl
            · intro w hSw; (try dsimp only at hSw); go_simp; try (with_reducible rfl)
            try simp only [Act.put, List.setIfInBounds_toArray, List.set_cons_zero, List.set_cons_succ]
            refine wpAnyH_take (i := 5) (oi := ?_) (v := ?_) ?_ (by kernel_rfl) (by kernel_rfl) (by kernel_rfl) ?_ (Or.inl ⟨?_, ?_⟩) hHeld ?_
            rotate_left 2
            · simp only [List.getElem?_toArray, List.getElem?_cons_succ, List.getElem?_cons_zero]; rfl
            · exact fun _ _ _ h => h
            · rfl
            · intro w hSw; (try dsimp only at hSw); go_simp; try (with_reducible rfl)
            try simp only [Act.put, List.setIfInBounds_toArray, List.set_cons_zero, List.set_cons_succ]
            refine wpAnyH_take (i := 6) (oi := ?_) (v := ?_) ?_ (by kernel_rfl) (by kernel_rfl) (by kernel_rfl) ?_ (Or.inl ⟨?_, ?_⟩) hHeld ?_
            rotate_left 2
            · simp only [List.getElem?_toArray, List.getElem?_cons_succ, List.getElem?_cons_zero]; rfl
            · exact fun _ _ _ h => h
            · rfl
            · intro w hSw; (try dsimp only at hSw); go_simp; try (with_reducible rfl)
            try simp only [Act.put, List.setIfInBounds_toArray, List.set_cons_zero, List.set_cons_succ]
            refine wpAnyH_take (i := 7) (oi := ?_) (v := ?_) ?_ (by kernel_rfl) (by kernel_rfl) (by kernel_rfl) ?_ (Or.inl ⟨?_, ?_⟩) hHeld ?_
            rotate_left 2
            · simp only [List.getElem?_toArray, List.getElem?_cons_succ, List.getElem?_cons_zero]; rfl
            · exact fun _ _ _ h => h
            · rfl
            · intro w hSw; (try dsimp only at hSw); go_simp; try (with_reducible rfl)
            try simp only [Act.put, List.setIfInBounds_toArray, List.set_cons_zero, List.set_cons_succ]
            refine wpAnyH_ready (rs := [8]) (by kernel_rfl) (by simp) ?_
            refine AllReadyH.cons (o := ?_) ?_ (fun K hK => ?_) ?_
            rotate_left
            · simp only [List.getElem?_toArray, List.getElem?_cons_succ, List.getElem?_cons_zero]; rfl
            · go_simp
              go_at_call 9
              refine (HStp.out _ HBw.out).mono ?_
              rintro e w5 ⟨a5, c5, rfl, ho5, hb5⟩
              have HBw5 := Lib.hid (HBw.out.trans (hb5.mono HLW.out.own.size))
              have HLW5 := Lib.hid ((HLW.out.quiet ((Mod.refl [] wr).drew)).quiet (Mod.ofBelow hb5))
              clear ho5 hb5
              go_simp
              refine hK.out _ _ (HC.out _ HBw5.out) ?_
              clear hK K hHeld
              intro hHeld
              try simp only [Act.put, List.setIfInBounds_toArray, List.set_cons_zero, List.set_cons_succ]
              refine wpAnyH_take (i := 9) (oi := ?_) (v := ?_) ?_ (by kernel_rfl) (by kernel_rfl) (by kernel_rfl) ?_ (Or.inl ⟨?_, ?_⟩) hHeld ?_
              rotate_left 2
              · simp only [List.getElem?_toArray, List.getElem?_cons_succ, List.getElem?_cons_zero]; rfl
              · exact fun _ _ _ h => h
              · rfl
              · intro w hSw; (try dsimp only at hSw); go_simp; try (with_reducible rfl)
              try simp only [Act.put, List.setIfInBounds_toArray, List.set_cons_zero, List.set_cons_succ]
              refine wpAnyH_take (i := 10) (oi := ?_) (v := ?_) ?_ (by kernel_rfl) (by kernel_rfl) (by kernel_rfl) ?_ (Or.inl ⟨?_, ?_⟩) hHeld ?_
              rotate_left 2
              · simp only [List.getElem?_toArray, List.getElem?_cons_succ, List.getElem?_cons_zero]; rfl
              · exact fun _ _ _ h => h
              · rfl
              · intro w hSw; (try dsimp only at hSw); go_simp; try (with_reducible rfl)
              try simp only [Act.put, List.setIfInBounds_toArray, List.set_cons_zero, List.set_cons_succ]
              refine wpAnyH_take (i := 11) (oi := ?_) (v := ?_) ?_ (by kernel_rfl) (by kernel_rfl) (by kernel_rfl) ?_ (Or.inl ⟨?_, ?_⟩) hHeld ?_
              rotate_left 2
              · simp only [List.getElem?_toArray, List.getElem?_cons_succ, List.getElem?_cons_zero]; rfl
              · exact fun _ _ _ h => h
              · rfl
              · intro w hSw; (try dsimp only at hSw); go_simp; try (with_reducible rfl)
              try simp only [Act.put, List.setIfInBounds_toArray, List.set_cons_zero, List.set_cons_succ]
              refine wpAnyH_take (i := 12) (oi := ?_) (v := ?_) ?_ (by kernel_rfl) (by kernel_rfl) (by kernel_rfl) ?_ (Or.inl ⟨?_, ?_⟩) hHeld ?_
              rotate_left 2
              · simp only [List.getElem?_toArray, List.getElem?_cons_succ, List.getElem?_cons_zero]; rfl
              · exact fun _ _ _ h => h
              · rfl
              · intro w hSw; (try dsimp only at hSw); go_simp; try (with_reducible rfl)
              try simp only [Act.put, List.setIfInBounds_toArray, List.set_cons_zero, List.set_cons_succ]
              refine wpAnyH_take (i := 13) (oi := ?_) (v := ?_) ?_ (by kernel_rfl) (by kernel_rfl) (by kernel_rfl) ?_ (Or.inl ⟨?_, ?_⟩) hHeld ?_
              rotate_left 2
              · simp only [List.getElem?_toArray, List.getElem?_cons_succ, List.getElem?_cons_zero]; rfl
              · exact fun _ _ _ h => h
              · rfl
              · intro w hSw; (try dsimp only at hSw); go_simp; try (with_reducible rfl)
              try simp only [Act.put, List.setIfInBounds_toArray, List.set_cons_zero, List.set_cons_succ]
              refine wpAnyH_done (by kernel_rfl) ?_ _
              go_wp2_with fail
              have q0 := (HC.out _ HBw5.out.drew).1
              have q1 : w5.drew.cell? ⟨w.heap.size, 4, none⟩ = some (.slice p.ta N p.tc) := by
                have h := blk_cell (blk_drew HLW5.out.row) 4
                rw [h, ← HN.out]; rfl
              go_region_held3 (fun W => W.cell? ⟨tb, to + k, none⟩ = some (.int .i64 tn) ∧ W.cell? ⟨w.heap.size, 4, none⟩ = some (.slice p.ta N p.tc)) (first | exact ⟨q0, q1⟩ | assumption | go_keep) (fail)
              go_wp2_with fail
              go_roundw
              case rel => exact ⟨k + 1, m, a, n, c, rfl, by go_num, by have := HLtk.out; omega, by rw [HSt2.out]; exact HNn.out, by rw [HSt2.out]; exact HCA.out, by rw [HSt2.out]; first | exact HLW5.out | exact HLW5.out.quiet ((Mod.refl [] w5).drew) | exact HLW5.out.quiet (mod_drewN _ _)⟩
              case measure => have := HLtk.out; simp [intOf]; omega
            exact AllReadyH.nil
        · have he1 : (stepE t x != 0) = true := by simpa using he
          have hsr : stepR t x = [] := by unfold stepR; rw [if_neg he]
          have HSt2 := Lib.hid (show stOf N ts ss (k + 1) = stOf N ts ss k by
            rw [HSucc.out]; unfold stA; rw [if_neg (fun h => he h.1), List.append_nil])
          rw [hsr] at HStp
          obtain ⟨er, her⟩ : ∃ er, stepE t x = er := ⟨_, rfl⟩
          rw [her] at HStp he1
          clear he hsr her htb
          refine wp_region_held_drew (S := (fun W => W.cell? ⟨tb, to + k, none⟩ = some (.int .i64 t) ∧ W.cell? ⟨sb, so + k * 4, none⟩ = some (.int .i64 x.st) ∧ W.cell? ⟨sb, so + k * 4 + 1, none⟩ = some (.int .i64 x.tries) ∧ W.cell? ⟨sb, so + k * 4 + 2, none⟩ = some (.int .i64 x.due) ∧ W.cell? ⟨sb, so + k * 4 + 3, none⟩ = some (.int .i64 x.code))) (by kernel_rfl) (HC.out _ HBw.out) (fun hHeld => ?_)
          refine wpAnyH_take (i := 0) (oi := ?_) (v := ?_) ?_ (by kernel_rfl) (by kernel_rfl) (by kernel_rfl) ?_ (Or.inl ⟨?_, ?_⟩) hHeld ?_
          rotate_left 2
          · simp only [List.getElem?_toArray, List.getElem?_cons_succ, List.getElem?_cons_zero]; rfl
          · exact fun _ _ _ h => h
          · rfl
          · intro w hSw; (try dsimp only at hSw); go_simp; try (with_reducible rfl)
          try simp only [Act.put, List.setIfInBounds_toArray, List.set_cons_zero, List.set_cons_succ]
          refine wpAnyH_take (i := 1) (oi := ?_) (v := ?_) ?_ (by kernel_rfl) (by kernel_rfl) (by kernel_rfl) ?_ (Or.inl ⟨?_, ?_⟩) hHeld ?_
          rotate_left 2
          · simp only [List.getElem?_toArray, List.getElem?_cons_succ, List.getElem?_cons_zero]; rfl
          · exact fun _ _ _ h => h
          · rfl
          · intro w hSw; (try dsimp only at hSw); go_simp; try (with_reducible rfl)
          try simp only [Act.put, List.setIfInBounds_toArray, List.set_cons_zero, List.set_cons_succ]
          refine wpAnyH_take (i := 2) (oi := ?_) (v := ?_) ?_ (by kernel_rfl) (by kernel_rfl) (by kernel_rfl) ?_ (Or.inl ⟨?_, ?_⟩) hHeld ?_
          rotate_left 2
          · simp only [List.getElem?_toArray, List.getElem?_cons_succ, List.getElem?_cons_zero]; rfl
          · exact fun _ _ _ h => h
          · rfl
          · intro w hSw; (try dsimp only at hSw); go_simp; try (with_reducible rfl)
          try simp only [Act.put, List.setIfInBounds_toArray, List.set_cons_zero, List.set_cons_succ]
          refine wpAnyH_take (i := 3) (oi := ?_) (v := ?_) ?_ (by kernel_rfl) (by kernel_rfl) (by kernel_rfl) ?_ (Or.inl ⟨?_, ?_⟩) hHeld ?_
          rotate_left 2
          · simp only [List.getElem?_toArray, List.getElem?_cons_succ, List.getElem?_cons_zero]; rfl
          · exact fun _ _ _ h => h
          · rfl
          · intro w hSw; (try dsimp only at hSw); go_simp; try (with_reducible rfl)
          try simp only [Act.put, List.setIfInBounds_toArray, List.set_cons_zero, List.set_cons_succ]
          refine wpAnyH_take (i := 4) (oi := ?_) (v := ?_) ?_ (by kernel_rfl) (by kernel_rfl) (by kernel_rfl) ?_ (Or.inl ⟨?_, ?_⟩) hHeld ?_
          rotate_left 2
          · simp only [List.getElem?_toArray, List.getElem?_cons_succ, List.getElem?_cons_zero]; rfl
          · exact fun _ _ _ h => h
          · rfl
          · intro w hSw; (try dsimp only at hSw); go_simp; try (with_reducible rfl)
          try simp only [Act.put, List.setIfInBounds_toArray, List.set_cons_zero, List.set_cons_succ]
          refine wpAnyH_take (i := 5) (oi := ?_) (v := ?_) ?_ (by kernel_rfl) (by kernel_rfl) (by kernel_rfl) ?_ (Or.inl ⟨?_, ?_⟩) hHeld ?_
          rotate_left 2
          · simp only [List.getElem?_toArray, List.getElem?_cons_succ, List.getElem?_cons_zero]; rfl
          · exact fun _ _ _ h => h
          · rfl
          · intro w hSw; (try dsimp only at hSw); go_simp; try (with_reducible rfl)
          try simp only [Act.put, List.setIfInBounds_toArray, List.set_cons_zero, List.set_cons_succ]
          refine wpAnyH_take (i := 6) (oi := ?_) (v := ?_) ?_ (by kernel_rfl) (by kernel_rfl) (by kernel_rfl) ?_ (Or.inl ⟨?_, ?_⟩) hHeld ?_
          rotate_left 2
          · simp only [List.getElem?_toArray, List.getElem?_cons_succ, List.getElem?_cons_zero]; rfl
          · exact fun _ _ _ h => h
          · rfl
          · intro w hSw; (try dsimp only at hSw); go_simp; try (with_reducible rfl)
          try simp only [Act.put, List.setIfInBounds_toArray, List.set_cons_zero, List.set_cons_succ]
          refine wpAnyH_take (i := 7) (oi := ?_) (v := ?_) ?_ (by kernel_rfl) (by kernel_rfl) (by kernel_rfl) ?_ (Or.inl ⟨?_, ?_⟩) hHeld ?_
          rotate_left 2
          · simp only [List.getElem?_toArray, List.getElem?_cons_succ, List.getElem?_cons_zero]; rfl
          · exact fun _ _ _ h => h
          · rfl
          · intro w hSw; (try dsimp only at hSw); go_simp; try (with_reducible rfl)
          try simp only [Act.put, List.setIfInBounds_toArray, List.set_cons_zero, List.set_cons_succ]
          refine wpAnyH_ready (rs := [8]) (by kernel_rfl) (by simp) ?_
          refine AllReadyH.cons (o := ?_) ?_ (fun K hK => ?_) ?_
          rotate_left
          · simp only [List.getElem?_toArray, List.getElem?_cons_succ, List.getElem?_cons_zero]; rfl
          · go_simp
            go_at_call 9
            refine (HStp.out _ HBw.out).mono ?_
            rintro e w5 ⟨a5, c5, rfl, ho5, hb5⟩
            have HBw5 := Lib.hid (HBw.out.trans (hb5.mono HLW.out.own.size))
            have HLW5 := Lib.hid ((HLW.out.quiet ((Mod.refl [] wr).drew)).quiet (Mod.ofBelow hb5))
            clear ho5 hb5
            go_simp
            refine hK.out _ _ (HC.out _ HBw5.out) ?_
            clear hK K hHeld
            intro hHeld
            try simp only [Act.put, List.setIfInBounds_toArray, List.set_cons_zero, List.set_cons_succ]
            refine wpAnyH_take (i := 9) (oi := ?_) (v := ?_) ?_ (by kernel_rfl) (by kernel_rfl) (by kernel_rfl) ?_ (Or.inl ⟨?_, ?_⟩) hHeld ?_
            rotate_left 2
            · simp only [List.getElem?_toArray, List.getElem?_cons_succ, List.getElem?_cons_zero]; rfl
            · exact fun _ _ _ h => h
            · rfl
            · intro w hSw; (try dsimp only at hSw); go_simp; try (with_reducible rfl)
            try simp only [Act.put, List.setIfInBounds_toArray, List.set_cons_zero, List.set_cons_succ]
            refine wpAnyH_take (i := 10) (oi := ?_) (v := ?_) ?_ (by kernel_rfl) (by kernel_rfl) (by kernel_rfl) ?_ (Or.inl ⟨?_, ?_⟩) hHeld ?_
            rotate_left 2
            · simp only [List.getElem?_toArray, List.getElem?_cons_succ, List.getElem?_cons_zero]; rfl
            · exact fun _ _ _ h => h
            · rfl
            · intro w hSw; (try dsimp only at hSw); go_simp; try (with_reducible rfl)
            try simp only [Act.put, List.setIfInBounds_toArray, List.set_cons_zero, List.set_cons_succ]
            refine wpAnyH_take (i := 11) (oi := ?_) (v := ?_) ?_ (by kernel_rfl) (by kernel_rfl) (by kernel_rfl) ?_ (Or.inl ⟨?_, ?_⟩) hHeld ?_
            rotate_left 2
            · simp only [List.getElem?_toArray, List.getElem?_cons_succ, List.getElem?_cons_zero]; rfl
            · exact fun _ _ _ h => h
            · rfl
            · intro w hSw; (try dsimp only at hSw); go_simp; try (with_reducible rfl)
            try simp only [Act.put, List.setIfInBounds_toArray, List.set_cons_zero, List.set_cons_succ]
            refine wpAnyH_take (i := 12) (oi := ?_) (v := ?_) ?_ (by kernel_rfl) (by kernel_rfl) (by kernel_rfl) ?_ (Or.inl ⟨?_, ?_⟩) hHeld ?_
            rotate_left 2
            · simp only [List.getElem?_toArray, List.getElem?_cons_succ, List.getElem?_cons_zero]; rfl
            · exact fun _ _ _ h => h
            · rfl
            · intro w hSw; (try dsimp only at hSw); go_simp; try (with_reducible rfl)
            try simp only [Act.put, List.setIfInBounds_toArray, List.set_cons_zero, List.set_cons_succ]
            refine wpAnyH_take (i := 13) (oi := ?_) (v := ?_) ?_ (by kernel_rfl) (by kernel_rfl) (by kernel_rfl) ?_ (Or.inl ⟨?_, ?_⟩) hHeld ?_
            rotate_left 2
            · simp only [List.getElem?_toArray, List.getElem?_cons_succ, List.getElem?_cons_zero]; rfl
            · exact fun _ _ _ h => h
            · rfl
            · intro w hSw; (try dsimp only at hSw); go_simp; try (with_reducible rfl)
            try simp only [Act.put, List.setIfInBounds_toArray, List.set_cons_zero, List.set_cons_succ]
            refine wpAnyH_done (by kernel_rfl) ?_ _
            go_wp2_with fail
            go_quiet (fail)
            go_wp2_with fail
            go_roundw
            case rel => exact ⟨k + 1, m, a, n, c, rfl, by go_num, by have := HLtk.out; omega, by rw [HSt2.out]; exact HNn.out, by rw [HSt2.out]; exact HCA.out, by rw [HSt2.out]; first | exact HLW5.out | exact HLW5.out.quiet ((Mod.refl [] w5).drew) | exact HLW5.out.quiet (mod_drewN _ _)⟩
            case measure => have := HLtk.out; simp [intOf]; omega
          exact AllReadyH.nil
      · have HBe := Lib.hid HLW.out.own.below
        obtain ⟨z0, z1, z2, z3, z4, z5, z6⟩ := JobRow.cells HLW.out.row
        obtain ⟨cc, hcc⟩ : ∃ cc : Nat, min cx (n : Int) = (cc : Int) := Int.eq_ofNat_of_zero_le (by have := HCx.out.1; omega)
        have HCc := Lib.hid hcc
        have hccn : cc ≤ n := by omega
        have hncap : n ≤ c := owns_le HLW.out.own.own
        obtain ⟨a7, hsl7, hcl7⟩ := slice8_to (P := Tryd.prog) 26 5 Tryd.underlying26 Tryd.sizeOf5 a n c cc hccn hncap
        have hc7 := hcl7 wr (flL j (stOf N ts ss k)) HNn.out.symm HLW.out.own.cells
        have hfl : (flL j (stOf N ts ss k)).length ≤ 200000 := by
          have h1 := HFlen.out (stOf N ts ss k)
          have h2 := stOf_len N ts ss k
          have := HKl.out
          have := HG1.out
          omega
        have HRe := Lib.hid (read_job ((flL j (stOf N ts ss k)).take cc) a7 cc c wr hc7 (by rw [List.length_take, ← HNn.out]; omega) (by rw [List.length_take]; omega) (by rw [List.length_take]; omega) (HIn.out wr HBe.out).2.2.2)
        unfold ReadP at HRe
        have HRS : Hid (∀ (J : Jb) (u er : Int), ReadsTo ((flL j (stOf N ts ss k)).take cc) J u er → er = 0 ∧ u ≤ (cc : Int) ∧ J = { j with sts := app j.sts ((stOf N ts ss k).take m) }) := Lib.hid (fun J u er h => steps_read HGj.out HJ.out.body.1 (by rw [HN.out]; exact stOf_ok N ts ss k) HCA.out (by rw [← HCc.out, HNn.out]) h)
        clear hcl7 hc7 hfl hccn hncap
        by_cases hl1 : (k : Int) < (n1 : Int)
        · have hl2 : ¬ (k : Int) < (n2 : Int) := by omega
          clear hlt
          go_wp2_with fail
          refine HRe.out.mono ?_
          rintro e w7 ⟨J, pJ, u, er, rfl, hJ, hb7, hrt, hfar⟩
          obtain ⟨rfl, hu, hJe⟩ := HRS.out _ _ _ hrt
          have hLW7 := HLW.out.quiet (Mod.ofBelow hb7)
          have hA : Mod [] w7 (w7.alloc (.cells (jbC J pJ) 28)) := (Mod.refl [] w7).alloc _
          have hLW8 := hLW7.quiet hA
          have hS : Mod [w.heap.size] (w7.alloc (.cells (jbC J pJ) 28)) ((w7.alloc (.cells (jbC J pJ) 28)).setCell ⟨w.heap.size, 5, none⟩ (.slice a4 sl c4)) := (Mod.refl [w.heap.size] _).setCell (Or.inl (by simp)) _
          have hgr := heap_alloc_new w7 (.cells (jbC J pJ) 28)
          have hglt : w.heap.size < w7.heap.size := blk_lt hLW7.row
          have hal : (app j.sts ((stOf N ts ss k).take m)).length = sl := by rw [app_length]; exact HSl.out
          have hbel : Below w.heap.size w ((w7.alloc (.cells (jbC J pJ) 28)).setCell ⟨w.heap.size, 5, none⟩ (.slice a4 sl c4)) := hLW8.own.below.trans (hS.toBelow hLW8.own.size (by simp))
          have hjb := (HIn.out _ hbel).1
          have hwant9 := hS.owns hLW8.want (fun q hq hx => by
            simp at hx; subst hx
            exact ne_type hLW8.row (show 28 ≠ 37 by decide) (owns_isT hLW8.want hq))
          rw [hal] at hwant9
          have hJ9 : JobAt ((w7.alloc (.cells (jbC J pJ) 28)).setCell ⟨w.heap.size, 5, none⟩ (.slice a4 sl c4)) { j with sts := app j.sts ((stOf N ts ss k).take m) } { p with sa := a4, sc := c4 } := ⟨hjb.to, CellsK.ofOwns stC_size (by decide) hwant9 hal.symm, hjb.body, hjb.tn, by show (app j.sts ((stOf N ts ss k).take m)).length ≤ c4; rw [hal]; exact owns_le hwant9, hjb.bn⟩
          have hG9 := (hJ.quiet hA).far hfar hS (blk_lt HLW.out.row)
          have hrow9 : ((w7.alloc (.cells (jbC J pJ) 28)).setCell ⟨w.heap.size, 5, none⟩ (.slice a4 sl c4)).heap[w.heap.size]? = some (.cells (jbC { j with sts := app j.sts ((stOf N ts ss k).take m) } { p with sa := a4, sc := c4 }) 28 (0, 0)) := by
            have h := blk_set hLW8.row 5 (.slice a4 sl c4)
            rw [h]
            simp [jbC, hal]
          have hgr9 := hS.row hgr (by simp; omega)
          have b5 := blk_free hLW8.row 5
          have b5' := blk_cell hLW8.row 5
          have HJ9 := Lib.hid hJ9
          have HG9 := Lib.hid hG9
          have HRw9 := Lib.hid hrow9
          have HGr9 := Lib.hid hgr9
          have HBel := Lib.hid hbel
          have HJe := Lib.hid hJe
          have HNt : Hid (J.to.length ≤ 1000000 ∧ J.sts.length ≤ 1000000) := Lib.hid ⟨by rw [hJe]; show j.to.length ≤ _; have := HN.out; have := HN20.out; omega, by rw [hJe]; show (app j.sts ((stOf N ts ss k).take m)).length ≤ _; rw [hal]; have := HSlN.out; have := HN20.out; omega⟩
          obtain ⟨w9, hw9⟩ : ∃ w9, (w7.alloc (.cells (jbC J pJ) 28)).setCell ⟨w.heap.size, 5, none⟩ (.slice a4 sl c4) = w9 := ⟨_, rfl⟩
          rw [hw9] at HJ9 HG9 HRw9 HGr9 HBel
          obtain ⟨gr, hgr'⟩ : ∃ gr, w7.heap.size = gr := ⟨_, rfl⟩
          rw [hgr'] at HGr9
          have HSm : Hid (∀ W, Mod [] w9 W → Calls Tryd.prog 11 #[.agg (jbC J pJ), .agg (jbC { j with sts := app j.sts ((stOf N ts ss k).take m) } { p with sa := a4, sc := c4 })] W (StP true W)) := Lib.hid (fun W hm => by
            have h := same_job W J _ pJ _ (HG9.out.quiet hm) (HJ9.out.quiet hm) HNt.out.1 HNt.out.2
            rw [← HJe.out, sameB_refl] at h
            exact HJe.out ▸ h)
          have HRm : Hid (∀ W, Mod [] w9 W → Calls Tryd.prog 12 #[.agg (jbC J pJ), .agg (jbC { j with sts := app j.sts ((stOf N ts ss k).take m) } { p with sa := a4, sc := c4 })] W (StP true W)) := Lib.hid (fun W hm => by
            have h := rsame_job W J _ pJ _ (HG9.out.quiet hm) (HJ9.out.quiet hm) HNt.out.1 HNt.out.2
            rw [← HJe.out, sameB_refl] at h
            exact HJe.out ▸ h)
          unfold StP at HSm HRm
          have HM9 := Lib.hid (Mod.refl [] w9)
          clear hJ hb7 hrt hfar hLW7 hA hLW8 hS hgr hglt hbel hjb hwant9 hJ9 hG9 hrow9 hgr9 hJe HRe z0 z1 z2 z3 z4 z5 z6
          obtain ⟨e0, e1, e2, e3, e4, e5, e6⟩ := JobRow.cells HRw9.out
          obtain ⟨f0, f1, f2, f3, f4, f5, f6⟩ := JobRow.cells HGr9.out
          simp only [hal] at e5
          simp only [jbC, hal] at HSm HRm
          go_wp2_with (first | (go_at_call 11; refine (HSm.out _ HM9.out).mono ?_; rintro e w10 ⟨rfl, hm⟩; have HM10 := Lib.hid hm; obtain ⟨e0, e1, e2, e3, e4, e5, e6⟩ := JobRow.cells (hm.row HRw9.out (by simp)); simp only [hal] at e5; obtain ⟨f0, f1, f2, f3, f4, f5, f6⟩ := JobRow.cells (hm.row HGr9.out (by simp)); clear hm) | (go_at_call 12; refine (HRm.out _ HM10.out).mono ?_; rintro e w11 ⟨rfl, hm⟩; have HM11 := Lib.hid hm; clear hm))
          go_ret
          exact ⟨rfl, HBel.out.trans ((HM10.out.trans HM11.out).toBelow HBel.out.size (by simp))⟩
        · clear hlt
          go_wp2_with fail
          refine HRe.out.mono ?_
          rintro e w7 ⟨J, pJ, u, er, rfl, hJ, hb7, hrt, hfar⟩
          obtain ⟨rfl, hu, hJe⟩ := HRS.out _ _ _ hrt
          have hLW7 := HLW.out.quiet (Mod.ofBelow hb7)
          have hA : Mod [] w7 (w7.alloc (.cells (jbC J pJ) 28)) := (Mod.refl [] w7).alloc _
          have hLW8 := hLW7.quiet hA
          have hS : Mod [w.heap.size] (w7.alloc (.cells (jbC J pJ) 28)) ((w7.alloc (.cells (jbC J pJ) 28)).setCell ⟨w.heap.size, 5, none⟩ (.slice a4 sl c4)) := (Mod.refl [w.heap.size] _).setCell (Or.inl (by simp)) _
          have hgr := heap_alloc_new w7 (.cells (jbC J pJ) 28)
          have hglt : w.heap.size < w7.heap.size := blk_lt hLW7.row
          have hal : (app j.sts ((stOf N ts ss k).take m)).length = sl := by rw [app_length]; exact HSl.out
          have hbel : Below w.heap.size w ((w7.alloc (.cells (jbC J pJ) 28)).setCell ⟨w.heap.size, 5, none⟩ (.slice a4 sl c4)) := hLW8.own.below.trans (hS.toBelow hLW8.own.size (by simp))
          have hjb := (HIn.out _ hbel).1
          have hwant9 := hS.owns hLW8.want (fun q hq hx => by
            simp at hx; subst hx
            exact ne_type hLW8.row (show 28 ≠ 37 by decide) (owns_isT hLW8.want hq))
          rw [hal] at hwant9
          have hJ9 : JobAt ((w7.alloc (.cells (jbC J pJ) 28)).setCell ⟨w.heap.size, 5, none⟩ (.slice a4 sl c4)) { j with sts := app j.sts ((stOf N ts ss k).take m) } { p with sa := a4, sc := c4 } := ⟨hjb.to, CellsK.ofOwns stC_size (by decide) hwant9 hal.symm, hjb.body, hjb.tn, by show (app j.sts ((stOf N ts ss k).take m)).length ≤ c4; rw [hal]; exact owns_le hwant9, hjb.bn⟩
          have hG9 := (hJ.quiet hA).far hfar hS (blk_lt HLW.out.row)
          have hrow9 : ((w7.alloc (.cells (jbC J pJ) 28)).setCell ⟨w.heap.size, 5, none⟩ (.slice a4 sl c4)).heap[w.heap.size]? = some (.cells (jbC { j with sts := app j.sts ((stOf N ts ss k).take m) } { p with sa := a4, sc := c4 }) 28 (0, 0)) := by
            have h := blk_set hLW8.row 5 (.slice a4 sl c4)
            rw [h]
            simp [jbC, hal]
          have hgr9 := hS.row hgr (by simp; omega)
          have b5 := blk_free hLW8.row 5
          have b5' := blk_cell hLW8.row 5
          have HJ9 := Lib.hid hJ9
          have HG9 := Lib.hid hG9
          have HRw9 := Lib.hid hrow9
          have HGr9 := Lib.hid hgr9
          have HBel := Lib.hid hbel
          have HJe := Lib.hid hJe
          have HNt : Hid (J.to.length ≤ 1000000 ∧ J.sts.length ≤ 1000000) := Lib.hid ⟨by rw [hJe]; show j.to.length ≤ _; have := HN.out; have := HN20.out; omega, by rw [hJe]; show (app j.sts ((stOf N ts ss k).take m)).length ≤ _; rw [hal]; have := HSlN.out; have := HN20.out; omega⟩
          obtain ⟨w9, hw9⟩ : ∃ w9, (w7.alloc (.cells (jbC J pJ) 28)).setCell ⟨w.heap.size, 5, none⟩ (.slice a4 sl c4) = w9 := ⟨_, rfl⟩
          rw [hw9] at HJ9 HG9 HRw9 HGr9 HBel
          obtain ⟨gr, hgr'⟩ : ∃ gr, w7.heap.size = gr := ⟨_, rfl⟩
          rw [hgr'] at HGr9
          have HSm : Hid (∀ W, Mod [] w9 W → Calls Tryd.prog 11 #[.agg (jbC J pJ), .agg (jbC { j with sts := app j.sts ((stOf N ts ss k).take m) } { p with sa := a4, sc := c4 })] W (StP true W)) := Lib.hid (fun W hm => by
            have h := same_job W J _ pJ _ (HG9.out.quiet hm) (HJ9.out.quiet hm) HNt.out.1 HNt.out.2
            rw [← HJe.out, sameB_refl] at h
            exact HJe.out ▸ h)
          have HRm : Hid (∀ W, Mod [] w9 W → Calls Tryd.prog 12 #[.agg (jbC J pJ), .agg (jbC { j with sts := app j.sts ((stOf N ts ss k).take m) } { p with sa := a4, sc := c4 })] W (StP true W)) := Lib.hid (fun W hm => by
            have h := rsame_job W J _ pJ _ (HG9.out.quiet hm) (HJ9.out.quiet hm) HNt.out.1 HNt.out.2
            rw [← HJe.out, sameB_refl] at h
            exact HJe.out ▸ h)
          unfold StP at HSm HRm
          have HM9 := Lib.hid (Mod.refl [] w9)
          clear hJ hb7 hrt hfar hLW7 hA hLW8 hS hgr hglt hbel hjb hwant9 hJ9 hG9 hrow9 hgr9 hJe HRe z0 z1 z2 z3 z4 z5 z6
          obtain ⟨e0, e1, e2, e3, e4, e5, e6⟩ := JobRow.cells HRw9.out
          obtain ⟨f0, f1, f2, f3, f4, f5, f6⟩ := JobRow.cells HGr9.out
          simp only [hal] at e5
          simp only [jbC, hal] at HSm HRm
          go_wp2_with (first | (go_at_call 11; refine (HSm.out _ HM9.out).mono ?_; rintro e w10 ⟨rfl, hm⟩; have HM10 := Lib.hid hm; obtain ⟨e0, e1, e2, e3, e4, e5, e6⟩ := JobRow.cells (hm.row HRw9.out (by simp)); simp only [hal] at e5; obtain ⟨f0, f1, f2, f3, f4, f5, f6⟩ := JobRow.cells (hm.row HGr9.out (by simp)); clear hm) | (go_at_call 12; refine (HRm.out _ HM10.out).mono ?_; rintro e w11 ⟨rfl, hm⟩; have HM11 := Lib.hid hm; clear hm))
          go_ret
          exact ⟨rfl, HBel.out.trans ((HM10.out.trans HM11.out).toBelow HBel.out.size (by simp))⟩
  · rw [if_neg hcc] at hcx
    subst hcx
    go_wp2_with fail
    clear hcc
    go_loopw [12, 14] (fun u v wr => ∃ (k m : Nat) (a : Option Addr) (n c : Nat), u = .slice a n c ∧ v = .int .i64 k ∧ (k ≤ n1 ∧ k ≤ n2) ∧ n = (flL j (stOf N ts ss k)).length ∧ CutAt j (stOf N ts ss k) cx m ∧ LW w wr w.heap.size j p (.slice a n c) (flL j (stOf N ts ss k)) (.slice a4 sl c4) (app j.sts ((stOf N ts ss k).take m))) (fun _ v _ => n1 - (intOf v).toNat)
    case atStart => exact ⟨0, 0, a3, nb, c3, rfl, rfl, ⟨Nat.zero_le _, Nat.zero_le _⟩, by rw [show stOf N ts ss 0 = [] from rfl, flL_nil]; exact HNb.out.symm, HStart.out, HL4'.out⟩
    case round =>
      obtain ⟨k, m, a, n, c, rfl, rfl, hk, hn, hcut, hlw⟩ := hrel
      have HCA := Lib.hid hcut
      have HLW := Lib.hid hlw
      have HNn := Lib.hid hn
      have HKl := Lib.hid hk
      clear hcut hlw hn hk
      by_cases hlt : k < n1 ∧ k < n2
      · have hl1 : (k : Int) < (n1 : Int) := by omega
        have hl2 : (k : Int) < (n2 : Int) := by omega
        have hk1 : k < ts.length := by rw [← HN1.out]; exact hlt.1
        have hk2 : k < ss.length := by rw [← HN2.out]; exact hlt.2
        obtain ⟨tb, to, rfl, -⟩ := HT1.out.addr (by omega)
        obtain ⟨sb, so, rfl, -⟩ := HS2.out.addr stC_size (by decide) (by omega)
        have hix1 := ixa (P := Tryd.prog) 29 3 Tryd.underlying29 1 Tryd.sizeOf3 (some ⟨tb, to, none⟩) tb to n1 c1 k rfl hlt.1
        rw [Nat.mul_one] at hix1
        have hix2 := ixa (P := Tryd.prog) 25 37 Tryd.underlying25 4 sizeSt (some ⟨sb, so, none⟩) sb so n2 c2 k rfl hlt.2
        obtain ⟨t, htk⟩ : ∃ t, ts.getD k 0 = t := ⟨_, rfl⟩
        obtain ⟨x, hxk⟩ : ∃ x, ss[k] = x := ⟨_, rfl⟩
        have hxd : ss.getD k default = x := by simp [List.getD, hk2, hxk]
        have htb : -9223372036854775808 ≤ t ∧ t ≤ 9223372036854775807 := HTb.out t (by rw [← htk]; simp [List.getD, hk1])
        have HSucc := Lib.hid (show stOf N ts ss (k + 1) = stOf N ts ss k ++ stA N t x by rw [stOf_succ, htk, hxd])
        have HC : Hid (∀ W, Below w.heap.size w W → W.cell? ⟨tb, to + k, none⟩ = some (.int .i64 t) ∧ W.cell? ⟨sb, so + k * 4, none⟩ = some (.int .i64 x.st) ∧ W.cell? ⟨sb, so + k * 4 + 1, none⟩ = some (.int .i64 x.tries) ∧ W.cell? ⟨sb, so + k * 4 + 2, none⟩ = some (.int .i64 x.due) ∧ W.cell? ⟨sb, so + k * 4 + 3, none⟩ = some (.int .i64 x.code)) := Lib.hid (fun W hb => by
          obtain ⟨_, i1, i2, _⟩ := HIn.out W hb
          have e1 := i1.at k hk1
          have e2 := i2.row k hk2
          rw [htk] at e1
          rw [hxk] at e2
          exact ⟨e1, e2⟩)
        have HLtk := Lib.hid hlt
        have HStp := Lib.hid (fun W (h : Below w.heap.size w W) => step_any t x W (HIn.out W h).2.2.2)
        unfold NewBE at HStp
        have HBw := Lib.hid HLW.out.own.below.drew
        clear htk hxk hxd hk1 hk2 hlt
        go_wp2_with fail
        by_cases he : stepE t x = 0
        · have hso := stepE_ok he
          obtain ⟨tn, rfl⟩ : ∃ tn : Nat, t = (tn : Int) := Int.eq_ofNat_of_zero_le hso.1.1
          have hsr : stepR tn x = wrapL 18 (spL tn x) := by unfold stepR; rw [if_pos he]
          rw [hsr, he] at HStp
          have HHe := Lib.hid he
          have HSx := Lib.hid hso.2
          clear he hsr hso htb
          by_cases htn : tn < N
          · have htn1 : ¬ (N : Int) ≤ (tn : Int) := by omega
            have HSt2 := Lib.hid (show stOf N ts ss (k + 1) = stOf N ts ss k ++ [(tn, x)] by
              rw [HSucc.out]; unfold stA; rw [if_pos ⟨HHe.out, by omega⟩]; simp)
            have HL2 := Lib.hid (show flL j (stOf N ts ss (k + 1)) = flL j (stOf N ts ss k) ++ wrapL 18 (spL tn x) by rw [HSt2.out, flL_snoc])
            have HTn := Lib.hid htn
            have HWl := Lib.hid (wrap18_len tn x).2
            have HWb := Lib.hid (wrapL_bytes 18 (spL_bytes tn x))
            have HB2 := Lib.hid (HFb.out (k + 1))
            have HCA2 := Lib.hid (fun h => (HSt2.out ▸ HCA.out.more (tn, x) (by rw [← HSt2.out]; exact h) : CutAt j (stOf N ts ss (k + 1)) cx (m + 1) ∧ (stOf N ts ss (k + 1)).take (m + 1) = (stOf N ts ss k).take m ++ [(tn, x)]))
            have HCA3 := Lib.hid (fun h => (HSt2.out ▸ HCA.out.past (tn, x) (by rw [← HSt2.out]; exact h) : CutAt j (stOf N ts ss (k + 1)) cx m ∧ (stOf N ts ss (k + 1)).take m = (stOf N ts ss k).take m))
            have HFl := Lib.hid (HFlen.out (stOf N ts ss k))
            have HStl := Lib.hid (stOf_len N ts ss k)
            obtain ⟨L2, hL2⟩ : ∃ L2, flL j (stOf N ts ss (k + 1)) = L2 := ⟨_, rfl⟩
            obtain ⟨LS, hLS⟩ : ∃ LS, wrapL 18 (spL tn x) = LS := ⟨_, rfl⟩
            rw [hL2] at HL2 HB2 HCA2 HCA3
            rw [hLS] at HL2 HStp HWl HWb
            have HL2e := Lib.hid hL2
            clear htn hL2 hLS
            refine wp_region_held_drew (S := (fun W => W.cell? ⟨tb, to + k, none⟩ = some (.int .i64 (tn : Int)) ∧ W.cell? ⟨sb, so + k * 4, none⟩ = some (.int .i64 x.st) ∧ W.cell? ⟨sb, so + k * 4 + 1, none⟩ = some (.int .i64 x.tries) ∧ W.cell? ⟨sb, so + k * 4 + 2, none⟩ = some (.int .i64 x.due) ∧ W.cell? ⟨sb, so + k * 4 + 3, none⟩ = some (.int .i64 x.code))) (by kernel_rfl) (HC.out _ HBw.out) (fun hHeld => ?_)
            refine wpAnyH_take (i := 0) (oi := ?_) (v := ?_) ?_ (by kernel_rfl) (by kernel_rfl) (by kernel_rfl) ?_ (Or.inl ⟨?_, ?_⟩) hHeld ?_
            rotate_left 2
            · simp only [List.getElem?_toArray, List.getElem?_cons_succ, List.getElem?_cons_zero]; rfl
            · exact fun _ _ _ h => h
            · rfl
            · intro w hSw; (try dsimp only at hSw); go_simp; try (with_reducible rfl)
            try simp only [Act.put, List.setIfInBounds_toArray, List.set_cons_zero, List.set_cons_succ]
            refine wpAnyH_take (i := 1) (oi := ?_) (v := ?_) ?_ (by kernel_rfl) (by kernel_rfl) (by kernel_rfl) ?_ (Or.inl ⟨?_, ?_⟩) hHeld ?_
            rotate_left 2
            · simp only [List.getElem?_toArray, List.getElem?_cons_succ, List.getElem?_cons_zero]; rfl
            · exact fun _ _ _ h => h
            · rfl
            · intro w hSw; (try dsimp only at hSw); go_simp; try (with_reducible rfl)
            try simp only [Act.put, List.setIfInBounds_toArray, List.set_cons_zero, List.set_cons_succ]
            refine wpAnyH_take (i := 2) (oi := ?_) (v := ?_) ?_ (by kernel_rfl) (by kernel_rfl) (by kernel_rfl) ?_ (Or.inl ⟨?_, ?_⟩) hHeld ?_
            rotate_left 2
            · simp only [List.getElem?_toArray, List.getElem?_cons_succ, List.getElem?_cons_zero]; rfl
            · exact fun _ _ _ h => h
            · rfl
            · intro w hSw; (try dsimp only at hSw); go_simp; try (with_reducible rfl)
            try simp only [Act.put, List.setIfInBounds_toArray, List.set_cons_zero, List.set_cons_succ]
            refine wpAnyH_take (i := 3) (oi := ?_) (v := ?_) ?_ (by kernel_rfl) (by kernel_rfl) (by kernel_rfl) ?_ (Or.inl ⟨?_, ?_⟩) hHeld ?_
            rotate_left 2
            · simp only [List.getElem?_toArray, List.getElem?_cons_succ, List.getElem?_cons_zero]; rfl
            · exact fun _ _ _ h => h
            · rfl
            · intro w hSw; (try dsimp only at hSw); go_simp; try (with_reducible rfl)
            try simp only [Act.put, List.setIfInBounds_toArray, List.set_cons_zero, List.set_cons_succ]
            refine wpAnyH_take (i := 4) (oi := ?_) (v := ?_) ?_ (by kernel_rfl) (by kernel_rfl) (by kernel_rfl) ?_ (Or.inl ⟨?_, ?_⟩) hHeld ?_
            rotate_left 2
            · simp only [List.getElem?_toArray, List.getElem?_cons_succ, List.getElem?_cons_zero]; rfl
            · exact fun _ _ _ h => h
            · rfl
            · intro w hSw; (try dsimp only at hSw); go_simp; try (with_reducible rfl)
            try simp only [Act.put, List.setIfInBounds_toArray, List.set_cons_zero, List.set_cons_succ]
            refine wpAnyH_take (i := 5) (oi := ?_) (v := ?_) ?_ (by kernel_rfl) (by kernel_rfl) (by kernel_rfl) ?_ (Or.inl ⟨?_, ?_⟩) hHeld ?_
            rotate_left 2
            · simp only [List.getElem?_toArray, List.getElem?_cons_succ, List.getElem?_cons_zero]; rfl
            · exact fun _ _ _ h => h
            · rfl
            · intro w hSw; (try dsimp only at hSw); go_simp; try (with_reducible rfl)
            try simp only [Act.put, List.setIfInBounds_toArray, List.set_cons_zero, List.set_cons_succ]
            refine wpAnyH_take (i := 6) (oi := ?_) (v := ?_) ?_ (by kernel_rfl) (by kernel_rfl) (by kernel_rfl) ?_ (Or.inl ⟨?_, ?_⟩) hHeld ?_
            rotate_left 2
            · simp only [List.getElem?_toArray, List.getElem?_cons_succ, List.getElem?_cons_zero]; rfl
            · exact fun _ _ _ h => h
            · rfl
            · intro w hSw; (try dsimp only at hSw); go_simp; try (with_reducible rfl)
            try simp only [Act.put, List.setIfInBounds_toArray, List.set_cons_zero, List.set_cons_succ]
            refine wpAnyH_take (i := 7) (oi := ?_) (v := ?_) ?_ (by kernel_rfl) (by kernel_rfl) (by kernel_rfl) ?_ (Or.inl ⟨?_, ?_⟩) hHeld ?_
            rotate_left 2
            · simp only [List.getElem?_toArray, List.getElem?_cons_succ, List.getElem?_cons_zero]; rfl
            · exact fun _ _ _ h => h
            · rfl
            · intro w hSw; (try dsimp only at hSw); go_simp; try (with_reducible rfl)
            try simp only [Act.put, List.setIfInBounds_toArray, List.set_cons_zero, List.set_cons_succ]
            refine wpAnyH_ready (rs := [8]) (by kernel_rfl) (by simp) ?_
            refine AllReadyH.cons (o := ?_) ?_ (fun K hK => ?_) ?_
            rotate_left
            · simp only [List.getElem?_toArray, List.getElem?_cons_succ, List.getElem?_cons_zero]; rfl
            · go_simp
              go_at_call 9
              refine (HStp.out _ HBw.out).mono ?_
              rintro e w5 ⟨a5, c5, rfl, ho5, hb5⟩
              have HBw5 := Lib.hid (HBw.out.trans (hb5.mono HLW.out.own.size))
              have HLW5 := Lib.hid ((HLW.out.quiet ((Mod.refl [] wr).drew)).quiet (Mod.ofBelow hb5))
              have HCs5 := Lib.hid (Cells8.ofOwns HWb.out ho5)
              obtain ⟨ns5, hns5⟩ : ∃ ns5, LS.length = ns5 := ⟨_, rfl⟩
              rw [hns5]
              have HNs5 := Lib.hid hns5.symm
              clear hns5
              clear ho5 hb5
              go_simp
              refine hK.out _ _ (HC.out _ HBw5.out) ?_
              clear hK K hHeld
              intro hHeld
              try simp only [Act.put, List.setIfInBounds_toArray, List.set_cons_zero, List.set_cons_succ]
              refine wpAnyH_take (i := 9) (oi := ?_) (v := ?_) ?_ (by kernel_rfl) (by kernel_rfl) (by kernel_rfl) ?_ (Or.inl ⟨?_, ?_⟩) hHeld ?_
              rotate_left 2
              · simp only [List.getElem?_toArray, List.getElem?_cons_succ, List.getElem?_cons_zero]; rfl
              · exact fun _ _ _ h => h
              · rfl
              · intro w hSw; (try dsimp only at hSw); go_simp; try (with_reducible rfl)
              try simp only [Act.put, List.setIfInBounds_toArray, List.set_cons_zero, List.set_cons_succ]
              refine wpAnyH_take (i := 10) (oi := ?_) (v := ?_) ?_ (by kernel_rfl) (by kernel_rfl) (by kernel_rfl) ?_ (Or.inl ⟨?_, ?_⟩) hHeld ?_
              rotate_left 2
              · simp only [List.getElem?_toArray, List.getElem?_cons_succ, List.getElem?_cons_zero]; rfl
              · exact fun _ _ _ h => h
              · rfl
              · intro w hSw; (try dsimp only at hSw); go_simp; try (with_reducible rfl)
              try simp only [Act.put, List.setIfInBounds_toArray, List.set_cons_zero, List.set_cons_succ]
              refine wpAnyH_take (i := 11) (oi := ?_) (v := ?_) ?_ (by kernel_rfl) (by kernel_rfl) (by kernel_rfl) ?_ (Or.inl ⟨?_, ?_⟩) hHeld ?_
              rotate_left 2
              · simp only [List.getElem?_toArray, List.getElem?_cons_succ, List.getElem?_cons_zero]; rfl
              · exact fun _ _ _ h => h
              · rfl
              · intro w hSw; (try dsimp only at hSw); go_simp; try (with_reducible rfl)
              try simp only [Act.put, List.setIfInBounds_toArray, List.set_cons_zero, List.set_cons_succ]
              refine wpAnyH_take (i := 12) (oi := ?_) (v := ?_) ?_ (by kernel_rfl) (by kernel_rfl) (by kernel_rfl) ?_ (Or.inl ⟨?_, ?_⟩) hHeld ?_
              rotate_left 2
              · simp only [List.getElem?_toArray, List.getElem?_cons_succ, List.getElem?_cons_zero]; rfl
              · exact fun _ _ _ h => h
              · rfl
              · intro w hSw; (try dsimp only at hSw); go_simp; try (with_reducible rfl)
              try simp only [Act.put, List.setIfInBounds_toArray, List.set_cons_zero, List.set_cons_succ]
              refine wpAnyH_take (i := 13) (oi := ?_) (v := ?_) ?_ (by kernel_rfl) (by kernel_rfl) (by kernel_rfl) ?_ (Or.inl ⟨?_, ?_⟩) hHeld ?_
              rotate_left 2
              · simp only [List.getElem?_toArray, List.getElem?_cons_succ, List.getElem?_cons_zero]; rfl
              · exact fun _ _ _ h => h
              · rfl
              · intro w hSw; (try dsimp only at hSw); go_simp; try (with_reducible rfl)
              try simp only [Act.put, List.setIfInBounds_toArray, List.set_cons_zero, List.set_cons_succ]
              refine wpAnyH_done (by kernel_rfl) ?_ _
              go_wp2_with fail
              have q0 := (HC.out _ HBw5.out.drew).1
              have q1 : w5.drew.cell? ⟨w.heap.size, 4, none⟩ = some (.slice p.ta N p.tc) := by
                have h := blk_cell (blk_drew HLW5.out.row) 4
                rw [h, ← HN.out]; rfl
              go_region_held3 (fun W => W.cell? ⟨tb, to + k, none⟩ = some (.int .i64 tn) ∧ W.cell? ⟨w.heap.size, 4, none⟩ = some (.slice p.ta N p.tc)) (first | exact ⟨q0, q1⟩ | assumption | go_keep) (fail)
              have HLWd := Lib.hid (HLW5.out.quiet ((Mod.refl [] w5).drew))
              have HC5 := Lib.hid (HCs5.out.mod ((Mod.refl [] w5).drew) (by simp))
              go_wp2_with (at_builtin; refine wpList_append8 _ rfl _ _ 26 26 rfl 5 Tryd.underlying26 Tryd.info8 _ (flL j (stOf N ts ss k)) rfl HLWd.out.own.base _ _ LS rfl (Src.of8 HC5.out Tryd.underlying26 _ _ HNs5.out) (by have := HFl.out; have := HStl.out; have := HWl.out; have := HLtk.out; have := HG1.out; omega) L2 HL2.out ?_)
              intro v6 w6 hg6
              have hlw6 := HLWd.out.grew hg6 HB2.out
              obtain ⟨a6, c6, rfl⟩ := hlw6.own.shape
              have HLW6 := Lib.hid hlw6
              clear hg6 hlw6
              obtain ⟨n6, hn6⟩ : ∃ n6, L2.length = n6 := ⟨_, rfl⟩
              rw [hn6] at HLW6 HCA2 HCA3 ⊢
              have HN6 := Lib.hid hn6
              clear hn6
              by_cases hle : (n6 : Int) ≤ cx
              · have HCAy := Lib.hid (HCA2.out hle)
                have HBw6 := Lib.hid HLW6.out.own.below.drew
                have HLWq := Lib.hid (HLW6.out.quiet ((Mod.refl [] w6).drew))
                have hal : (app j.sts ((stOf N ts ss k).take m)).length = sl := by rw [app_length]; exact HSl.out
                have HTs : Hid (tn < (app j.sts ((stOf N ts ss k).take m)).length) := Lib.hid (by rw [hal, HSlN.out]; exact HTn.out)
                have hwant := HLWq.out.want
                rw [hal] at hwant
                obtain ⟨g4, hg4⟩ : ∃ g4, a4 = some ⟨g4, 0, none⟩ := by
                  rcases hwant.2 with ⟨h1, h2⟩ | ⟨g', c', cur, hv, _⟩
                  · have := HTn.out; have := HSlN.out; omega
                  · simp only [Value.slice.injEq] at hv
                    exact ⟨g', hv.1⟩
                subst hg4
                obtain ⟨cur, hcur⟩ := owns_isT hwant rfl
                have hcells := CellsK.ofOwns stC_size (by decide) hwant hal.symm
                have hrow4 := CellsSt.row hcells tn HTs.out
                rw [Nat.zero_add] at hrow4
                obtain ⟨t0, t1, t2, t3⟩ := hrow4
                have HIs : Hid (∀ j, j < (stC x).toList.length → (w6.drew.cell? ⟨g4, tn * 4 + 0 + j, none⟩).isSome = true) := Lib.hid (fun j hj => by
                  have hj : j < 4 := hj
                  match j, hj with
                  | 0, _ => simpa using congrArg Option.isSome t0
                  | 1, _ => simpa using congrArg Option.isSome t1
                  | 2, _ => simpa using congrArg Option.isSome t2
                  | 3, _ => simpa using congrArg Option.isSome t3)
                have HFz : Hid (∀ j, j < (stC x).toList.length → w6.drew.frozen? ⟨g4, tn * 4 + 0 + j, none⟩ = false) := Lib.hid (fun j _ => blk_free hcur _)
                have hix3 := ixa (P := Tryd.prog) 25 37 Tryd.underlying25 4 sizeSt (some ⟨g4, 0, none⟩) g4 0 sl c4 tn rfl (by rw [HSlN.out]; exact HTn.out)
                simp only [Nat.zero_add] at hix3
                have HLWs := Lib.hid (HLWq.out.set hal.symm tn HTs.out x)
                clear t0 t1 t2 t3 hcells hcur hwant hal
                go_wp2_with fail
                refine region_J (S := (fun W => W.cell? ⟨tb, to + k, none⟩ = some (.int .i64 (tn : Int)) ∧ W.cell? ⟨sb, so + k * 4, none⟩ = some (.int .i64 x.st) ∧ W.cell? ⟨sb, so + k * 4 + 1, none⟩ = some (.int .i64 x.tries) ∧ W.cell? ⟨sb, so + k * 4 + 2, none⟩ = some (.int .i64 x.due) ∧ W.cell? ⟨sb, so + k * 4 + 3, none⟩ = some (.int .i64 x.code))) (k := 10) (by kernel_rfl) (HC.out _ HBw6.out) (fun hHeld => ?_)
                refine anyJ.take3 (i := 0) (oi := ?_) (v := ?_) ?_ (by kernel_rfl) (by kernel_rfl) (by kernel_rfl) (by kernel_rfl) ?_ (Or.inl ⟨?_, ?_⟩) hHeld ?_
                rotate_left 2
                · simp only [List.getElem?_toArray, List.getElem?_cons_succ, List.getElem?_cons_zero]; rfl
                · exact fun _ _ _ h => h
                · rfl
                · intro w hSw; (try dsimp only at hSw); go_simp; try (with_reducible rfl)
                try simp only [Act.put, List.setIfInBounds_toArray, List.set_cons_zero, List.set_cons_succ]
                refine anyJ.take3 (i := 1) (oi := ?_) (v := ?_) ?_ (by kernel_rfl) (by kernel_rfl) (by kernel_rfl) (by kernel_rfl) ?_ (Or.inl ⟨?_, ?_⟩) hHeld ?_
                rotate_left 2
                · simp only [List.getElem?_toArray, List.getElem?_cons_succ, List.getElem?_cons_zero]; rfl
                · exact fun _ _ _ h => h
                · rfl
                · intro w hSw; (try dsimp only at hSw); go_simp; try (with_reducible rfl)
                try simp only [Act.put, List.setIfInBounds_toArray, List.set_cons_zero, List.set_cons_succ]
                refine anyJ.take3 (i := 2) (oi := ?_) (v := ?_) ?_ (by kernel_rfl) (by kernel_rfl) (by kernel_rfl) (by kernel_rfl) ?_ (Or.inl ⟨?_, ?_⟩) hHeld ?_
                rotate_left 2
                · simp only [List.getElem?_toArray, List.getElem?_cons_succ, List.getElem?_cons_zero]; rfl
                · exact fun _ _ _ h => h
                · rfl
                · intro w hSw; (try dsimp only at hSw); go_simp; try (with_reducible rfl)
                try simp only [Act.put, List.setIfInBounds_toArray, List.set_cons_zero, List.set_cons_succ]
                refine anyJ.take3 (i := 3) (oi := ?_) (v := ?_) ?_ (by kernel_rfl) (by kernel_rfl) (by kernel_rfl) (by kernel_rfl) ?_ (Or.inl ⟨?_, ?_⟩) hHeld ?_
                rotate_left 2
                · simp only [List.getElem?_toArray, List.getElem?_cons_succ, List.getElem?_cons_zero]; rfl
                · exact fun _ _ _ h => h
                · rfl
                · intro w hSw; (try dsimp only at hSw); go_simp; try (with_reducible rfl)
                try simp only [Act.put, List.setIfInBounds_toArray, List.set_cons_zero, List.set_cons_succ]
                refine anyJ.take3 (i := 4) (oi := ?_) (v := ?_) ?_ (by kernel_rfl) (by kernel_rfl) (by kernel_rfl) (by kernel_rfl) ?_ (Or.inl ⟨?_, ?_⟩) hHeld ?_
                rotate_left 2
                · simp only [List.getElem?_toArray, List.getElem?_cons_succ, List.getElem?_cons_zero]; rfl
                · exact fun _ _ _ h => h
                · rfl
                · intro w hSw; (try dsimp only at hSw); go_simp; try (with_reducible rfl)
                try simp only [Act.put, List.setIfInBounds_toArray, List.set_cons_zero, List.set_cons_succ]
                refine anyJ.take3 (i := 5) (oi := ?_) (v := ?_) ?_ (by kernel_rfl) (by kernel_rfl) (by kernel_rfl) (by kernel_rfl) ?_ (Or.inl ⟨?_, ?_⟩) hHeld ?_
                rotate_left 2
                · simp only [List.getElem?_toArray, List.getElem?_cons_succ, List.getElem?_cons_zero]; rfl
                · exact fun _ _ _ h => h
                · rfl
                · intro w hSw; (try dsimp only at hSw); go_simp; try (with_reducible rfl)
                try simp only [Act.put, List.setIfInBounds_toArray, List.set_cons_zero, List.set_cons_succ]
                refine anyJ.take3 (i := 6) (oi := ?_) (v := ?_) ?_ (by kernel_rfl) (by kernel_rfl) (by kernel_rfl) (by kernel_rfl) ?_ (Or.inl ⟨?_, ?_⟩) hHeld ?_
                rotate_left 2
                · simp only [List.getElem?_toArray, List.getElem?_cons_succ, List.getElem?_cons_zero]; rfl
                · exact fun _ _ _ h => h
                · rfl
                · intro w hSw; (try dsimp only at hSw); go_simp; try (with_reducible rfl)
                try simp only [Act.put, List.setIfInBounds_toArray, List.set_cons_zero, List.set_cons_succ]
                refine anyJ.take3 (i := 7) (oi := ?_) (v := ?_) ?_ (by kernel_rfl) (by kernel_rfl) (by kernel_rfl) (by kernel_rfl) ?_ (Or.inl ⟨?_, ?_⟩) hHeld ?_
                rotate_left 2
                · simp only [List.getElem?_toArray, List.getElem?_cons_succ, List.getElem?_cons_zero]; rfl
                · exact fun _ _ _ h => h
                · rfl
                · intro w hSw; (try dsimp only at hSw); go_simp; try (with_reducible rfl)
                try simp only [Act.put, List.setIfInBounds_toArray, List.set_cons_zero, List.set_cons_succ]
                refine anyJ.take3 (i := 8) (oi := ?_) (v := ?_) ?_ (by kernel_rfl) (by kernel_rfl) (by kernel_rfl) (by kernel_rfl) ?_ (Or.inl ⟨?_, ?_⟩) hHeld ?_
                rotate_left 2
                · simp only [List.getElem?_toArray, List.getElem?_cons_succ, List.getElem?_cons_zero]; rfl
                · exact fun _ _ _ h => h
                · rfl
                · intro w hSw; (try dsimp only at hSw); go_simp; try (with_reducible rfl)
                try simp only [Act.put, List.setIfInBounds_toArray, List.set_cons_zero, List.set_cons_succ]
                refine anyJ.take3 (i := 9) (oi := ?_) (v := ?_) ?_ (by kernel_rfl) (by kernel_rfl) (by kernel_rfl) (by kernel_rfl) ?_ (Or.inl ⟨?_, ?_⟩) hHeld ?_
                rotate_left 2
                · simp only [List.getElem?_toArray, List.getElem?_cons_succ, List.getElem?_cons_zero]; rfl
                · exact fun _ _ _ h => h
                · rfl
                · intro w hSw; (try dsimp only at hSw); go_simp; try (with_reducible rfl)
                try simp only [Act.put, List.setIfInBounds_toArray, List.set_cons_zero, List.set_cons_succ]
                refine anyJ.ready (rs := [10]) (by kernel_rfl) (by simp) ?_
                refine AllJ.last (o := ?_) ?_ (fun K hK => ?_)
                rotate_left
                · simp only [List.getElem?_toArray, List.getElem?_cons_succ, List.getElem?_cons_zero]; rfl
                · refine step_store_at rfl _ _ _ rfl rfl g4 (tn * 4) (stC x) (by rfl) (by rfl) st_size (st_one _) HIs.out HFz.out ?_
                  go_simp
                  refine hK.out _ _ ?_
                  clear hK K
                  try simp only [Act.put, List.setIfInBounds_toArray, List.set_cons_zero, List.set_cons_succ]
                  refine anyJ.done (by kernel_rfl) ?_ _
                  go_wp2_with fail
                  go_roundw
                  case rel => exact ⟨k + 1, m + 1, a6, n6, c6, rfl, by go_num, by have := HLtk.out; omega, by rw [HL2e.out]; exact HN6.out.symm, HCAy.out.1, by rw [HL2e.out, HCAy.out.2, app_snoc]; exact HLWs.out⟩
                  case measure => have := HLtk.out; simp [intOf]; omega
              · have hlt6 : ¬ (n6 : Int) ≤ cx := hle
                have HCAn := Lib.hid (HCA3.out (by omega))
                clear hle
                go_wp2_with fail
                go_roundw
                case rel => exact ⟨k + 1, m, a6, n6, c6, rfl, by go_num, by have := HLtk.out; omega, by rw [HL2e.out]; exact HN6.out.symm, HCAn.out.1, by rw [HL2e.out, HCAn.out.2]; exact HLW6.out⟩
                case measure => have := HLtk.out; simp [intOf]; omega
            exact AllReadyH.nil
          · have htn1 : (N : Int) ≤ (tn : Int) := by omega
            have HSt2 := Lib.hid (show stOf N ts ss (k + 1) = stOf N ts ss k by
              rw [HSucc.out]; unfold stA; rw [if_neg (fun h => htn (by have := h.2; omega)), List.append_nil])
            clear htn
            refine wp_region_held_drew (S := (fun W => W.cell? ⟨tb, to + k, none⟩ = some (.int .i64 (tn : Int)) ∧ W.cell? ⟨sb, so + k * 4, none⟩ = some (.int .i64 x.st) ∧ W.cell? ⟨sb, so + k * 4 + 1, none⟩ = some (.int .i64 x.tries) ∧ W.cell? ⟨sb, so + k * 4 + 2, none⟩ = some (.int .i64 x.due) ∧ W.cell? ⟨sb, so + k * 4 + 3, none⟩ = some (.int .i64 x.code))) (by kernel_rfl) (HC.out _ HBw.out) (fun hHeld => ?_)
            refine wpAnyH_take (i := 0) (oi := ?_) (v := ?_) ?_ (by kernel_rfl) (by kernel_rfl) (by kernel_rfl) ?_ (Or.inl ⟨?_, ?_⟩) hHeld ?_
            rotate_left 2
            · simp only [List.getElem?_toArray, List.getElem?_cons_succ, List.getElem?_cons_zero]; rfl
            · exact fun _ _ _ h => h
            · rfl
            · intro w hSw; (try dsimp only at hSw); go_simp; try (with_reducible rfl)
            try simp only [Act.put, List.setIfInBounds_toArray, List.set_cons_zero, List.set_cons_succ]
            refine wpAnyH_take (i := 1) (oi := ?_) (v := ?_) ?_ (by kernel_rfl) (by kernel_rfl) (by kernel_rfl) ?_ (Or.inl ⟨?_, ?_⟩) hHeld ?_
            rotate_left 2
            · simp only [List.getElem?_toArray, List.getElem?_cons_succ, List.getElem?_cons_zero]; rfl
            · exact fun _ _ _ h => h
            · rfl
            · intro w hSw; (try dsimp only at hSw); go_simp; try (with_reducible rfl)
            try simp only [Act.put, List.setIfInBounds_toArray, List.set_cons_zero, List.set_cons_succ]
            refine wpAnyH_take (i := 2) (oi := ?_) (v := ?_) ?_ (by kernel_rfl) (by kernel_rfl) (by kernel_rfl) ?_ (Or.inl ⟨?_, ?_⟩) hHeld ?_
            rotate_left 2
            · simp only [List.getElem?_toArray, List.getElem?_cons_succ, List.getElem?_cons_zero]; rfl
            · exact fun _ _ _ h => h
            · rfl
            · intro w hSw; (try dsimp only at hSw); go_simp; try (with_reducible rfl)
            try simp only [Act.put, List.setIfInBounds_toArray, List.set_cons_zero, List.set_cons_succ]
            refine wpAnyH_take (i := 3) (oi := ?_) (v := ?_) ?_ (by kernel_rfl) (by kernel_rfl) (by kernel_rfl) ?_ (Or.inl ⟨?_, ?_⟩) hHeld ?_
            rotate_left 2
            · simp only [List.getElem?_toArray, List.getElem?_cons_succ, List.getElem?_cons_zero]; rfl
            · exact fun _ _ _ h => h
            · rfl
            · intro w hSw; (try dsimp only at hSw); go_simp; try (with_reducible rfl)
            try simp only [Act.put, List.setIfInBounds_toArray, List.set_cons_zero, List.set_cons_succ]
            refine wpAnyH_take (i := 4) (oi := ?_) (v := ?_) ?_ (by kernel_rfl) (by kernel_rfl) (by kernel_rfl) ?_ (Or.inl ⟨?_, ?_⟩) hHeld ?_
            rotate_left 2
            · simp only [List.getElem?_toArray, List.getElem?_cons_succ, List.getElem?_cons_zero]; rfl
            · exact fun _ _ _ h => h
            · rfl
            · intro w hSw; (try dsimp only at hSw); go_simp; try (with_reducible rfl)
            try simp only [Act.put, List.setIfInBounds_toArray, List.set_cons_zero, List.set_cons_succ]
            refine wpAnyH_take (i := 5) (oi := ?_) (v := ?_) ?_ (by kernel_rfl) (by kernel_rfl) (by kernel_rfl) ?_ (Or.inl ⟨?_, ?_⟩) hHeld ?_
            rotate_left 2
            · simp only [List.getElem?_toArray, List.getElem?_cons_succ, List.getElem?_cons_zero]; rfl
            · exact fun _ _ _ h => h
            · rfl
            · intro w hSw; (try dsimp only at hSw); go_simp; try (with_reducible rfl)
            try simp only [Act.put, List.setIfInBounds_toArray, List.set_cons_zero, List.set_cons_succ]
            refine wpAnyH_take (i := 6) (oi := ?_) (v := ?_) ?_ (by kernel_rfl) (by kernel_rfl) (by kernel_rfl) ?_ (Or.inl ⟨?_, ?_⟩) hHeld ?_
            rotate_left 2
            · simp only [List.getElem?_toArray, List.getElem?_cons_succ, List.getElem?_cons_zero]; rfl
            · exact fun _ _ _ h => h
            · rfl
            · intro w hSw; (try dsimp only at hSw); go_simp; try (with_reducible rfl)
            try simp only [Act.put, List.setIfInBounds_toArray, List.set_cons_zero, List.set_cons_succ]
            refine wpAnyH_take (i := 7) (oi := ?_) (v := ?_) ?_ (by kernel_rfl) (by kernel_rfl) (by kernel_rfl) ?_ (Or.inl ⟨?_, ?_⟩) hHeld ?_
            rotate_left 2
            · simp only [List.getElem?_toArray, List.getElem?_cons_succ, List.getElem?_cons_zero]; rfl
            · exact fun _ _ _ h => h
            · rfl
            · intro w hSw; (try dsimp only at hSw); go_simp; try (with_reducible rfl)
            try simp only [Act.put, List.setIfInBounds_toArray, List.set_cons_zero, List.set_cons_succ]
            refine wpAnyH_ready (rs := [8]) (by kernel_rfl) (by simp) ?_
            refine AllReadyH.cons (o := ?_) ?_ (fun K hK => ?_) ?_
            rotate_left
            · simp only [List.getElem?_toArray, List.getElem?_cons_succ, List.getElem?_cons_zero]; rfl
            · go_simp
              go_at_call 9
              refine (HStp.out _ HBw.out).mono ?_
              rintro e w5 ⟨a5, c5, rfl, ho5, hb5⟩
              have HBw5 := Lib.hid (HBw.out.trans (hb5.mono HLW.out.own.size))
              have HLW5 := Lib.hid ((HLW.out.quiet ((Mod.refl [] wr).drew)).quiet (Mod.ofBelow hb5))
              clear ho5 hb5
              go_simp
              refine hK.out _ _ (HC.out _ HBw5.out) ?_
              clear hK K hHeld
              intro hHeld
              try simp only [Act.put, List.setIfInBounds_toArray, List.set_cons_zero, List.set_cons_succ]
              refine wpAnyH_take (i := 9) (oi := ?_) (v := ?_) ?_ (by kernel_rfl) (by kernel_rfl) (by kernel_rfl) ?_ (Or.inl ⟨?_, ?_⟩) hHeld ?_
              rotate_left 2
              · simp only [List.getElem?_toArray, List.getElem?_cons_succ, List.getElem?_cons_zero]; rfl
              · exact fun _ _ _ h => h
              · rfl
              · intro w hSw; (try dsimp only at hSw); go_simp; try (with_reducible rfl)
              try simp only [Act.put, List.setIfInBounds_toArray, List.set_cons_zero, List.set_cons_succ]
              refine wpAnyH_take (i := 10) (oi := ?_) (v := ?_) ?_ (by kernel_rfl) (by kernel_rfl) (by kernel_rfl) ?_ (Or.inl ⟨?_, ?_⟩) hHeld ?_
              rotate_left 2
              · simp only [List.getElem?_toArray, List.getElem?_cons_succ, List.getElem?_cons_zero]; rfl
              · exact fun _ _ _ h => h
              · rfl
              · intro w hSw; (try dsimp only at hSw); go_simp; try (with_reducible rfl)
              try simp only [Act.put, List.setIfInBounds_toArray, List.set_cons_zero, List.set_cons_succ]
              refine wpAnyH_take (i := 11) (oi := ?_) (v := ?_) ?_ (by kernel_rfl) (by kernel_rfl) (by kernel_rfl) ?_ (Or.inl ⟨?_, ?_⟩) hHeld ?_
              rotate_left 2
              · simp only [List.getElem?_toArray, List.getElem?_cons_succ, List.getElem?_cons_zero]; rfl
              · exact fun _ _ _ h => h
              · rfl
              · intro w hSw; (try dsimp only at hSw); go_simp; try (with_reducible rfl)
              try simp only [Act.put, List.setIfInBounds_toArray, List.set_cons_zero, List.set_cons_succ]
              refine wpAnyH_take (i := 12) (oi := ?_) (v := ?_) ?_ (by kernel_rfl) (by kernel_rfl) (by kernel_rfl) ?_ (Or.inl ⟨?_, ?_⟩) hHeld ?_
              rotate_left 2
              · simp only [List.getElem?_toArray, List.getElem?_cons_succ, List.getElem?_cons_zero]; rfl
              · exact fun _ _ _ h => h
              · rfl
              · intro w hSw; (try dsimp only at hSw); go_simp; try (with_reducible rfl)
              try simp only [Act.put, List.setIfInBounds_toArray, List.set_cons_zero, List.set_cons_succ]
              refine wpAnyH_take (i := 13) (oi := ?_) (v := ?_) ?_ (by kernel_rfl) (by kernel_rfl) (by kernel_rfl) ?_ (Or.inl ⟨?_, ?_⟩) hHeld ?_
              rotate_left 2
              · simp only [List.getElem?_toArray, List.getElem?_cons_succ, List.getElem?_cons_zero]; rfl
              · exact fun _ _ _ h => h
              · rfl
              · intro w hSw; (try dsimp only at hSw); go_simp; try (with_reducible rfl)
              try simp only [Act.put, List.setIfInBounds_toArray, List.set_cons_zero, List.set_cons_succ]
              refine wpAnyH_done (by kernel_rfl) ?_ _
              go_wp2_with fail
              have q0 := (HC.out _ HBw5.out.drew).1
              have q1 : w5.drew.cell? ⟨w.heap.size, 4, none⟩ = some (.slice p.ta N p.tc) := by
                have h := blk_cell (blk_drew HLW5.out.row) 4
                rw [h, ← HN.out]; rfl
              go_region_held3 (fun W => W.cell? ⟨tb, to + k, none⟩ = some (.int .i64 tn) ∧ W.cell? ⟨w.heap.size, 4, none⟩ = some (.slice p.ta N p.tc)) (first | exact ⟨q0, q1⟩ | assumption | go_keep) (fail)
              go_wp2_with fail
              go_roundw
              case rel => exact ⟨k + 1, m, a, n, c, rfl, by go_num, by have := HLtk.out; omega, by rw [HSt2.out]; exact HNn.out, by rw [HSt2.out]; exact HCA.out, by rw [HSt2.out]; first | exact HLW5.out | exact HLW5.out.quiet ((Mod.refl [] w5).drew) | exact HLW5.out.quiet (mod_drewN _ _)⟩
              case measure => have := HLtk.out; simp [intOf]; omega
            exact AllReadyH.nil
        · have he1 : (stepE t x != 0) = true := by simpa using he
          have hsr : stepR t x = [] := by unfold stepR; rw [if_neg he]
          have HSt2 := Lib.hid (show stOf N ts ss (k + 1) = stOf N ts ss k by
            rw [HSucc.out]; unfold stA; rw [if_neg (fun h => he h.1), List.append_nil])
          rw [hsr] at HStp
          obtain ⟨er, her⟩ : ∃ er, stepE t x = er := ⟨_, rfl⟩
          rw [her] at HStp he1
          clear he hsr her htb
          refine wp_region_held_drew (S := (fun W => W.cell? ⟨tb, to + k, none⟩ = some (.int .i64 t) ∧ W.cell? ⟨sb, so + k * 4, none⟩ = some (.int .i64 x.st) ∧ W.cell? ⟨sb, so + k * 4 + 1, none⟩ = some (.int .i64 x.tries) ∧ W.cell? ⟨sb, so + k * 4 + 2, none⟩ = some (.int .i64 x.due) ∧ W.cell? ⟨sb, so + k * 4 + 3, none⟩ = some (.int .i64 x.code))) (by kernel_rfl) (HC.out _ HBw.out) (fun hHeld => ?_)
          refine wpAnyH_take (i := 0) (oi := ?_) (v := ?_) ?_ (by kernel_rfl) (by kernel_rfl) (by kernel_rfl) ?_ (Or.inl ⟨?_, ?_⟩) hHeld ?_
          rotate_left 2
          · simp only [List.getElem?_toArray, List.getElem?_cons_succ, List.getElem?_cons_zero]; rfl
          · exact fun _ _ _ h => h
          · rfl
          · intro w hSw; (try dsimp only at hSw); go_simp; try (with_reducible rfl)
          try simp only [Act.put, List.setIfInBounds_toArray, List.set_cons_zero, List.set_cons_succ]
          refine wpAnyH_take (i := 1) (oi := ?_) (v := ?_) ?_ (by kernel_rfl) (by kernel_rfl) (by kernel_rfl) ?_ (Or.inl ⟨?_, ?_⟩) hHeld ?_
          rotate_left 2
          · simp only [List.getElem?_toArray, List.getElem?_cons_succ, List.getElem?_cons_zero]; rfl
          · exact fun _ _ _ h => h
          · rfl
          · intro w hSw; (try dsimp only at hSw); go_simp; try (with_reducible rfl)
          try simp only [Act.put, List.setIfInBounds_toArray, List.set_cons_zero, List.set_cons_succ]
          refine wpAnyH_take (i := 2) (oi := ?_) (v := ?_) ?_ (by kernel_rfl) (by kernel_rfl) (by kernel_rfl) ?_ (Or.inl ⟨?_, ?_⟩) hHeld ?_
          rotate_left 2
          · simp only [List.getElem?_toArray, List.getElem?_cons_succ, List.getElem?_cons_zero]; rfl
          · exact fun _ _ _ h => h
          · rfl
          · intro w hSw; (try dsimp only at hSw); go_simp; try (with_reducible rfl)
          try simp only [Act.put, List.setIfInBounds_toArray, List.set_cons_zero, List.set_cons_succ]
          refine wpAnyH_take (i := 3) (oi := ?_) (v := ?_) ?_ (by kernel_rfl) (by kernel_rfl) (by kernel_rfl) ?_ (Or.inl ⟨?_, ?_⟩) hHeld ?_
          rotate_left 2
          · simp only [List.getElem?_toArray, List.getElem?_cons_succ, List.getElem?_cons_zero]; rfl
          · exact fun _ _ _ h => h
          · rfl
          · intro w hSw; (try dsimp only at hSw); go_simp; try (with_reducible rfl)
          try simp only [Act.put, List.setIfInBounds_toArray, List.set_cons_zero, List.set_cons_succ]
          refine wpAnyH_take (i := 4) (oi := ?_) (v := ?_) ?_ (by kernel_rfl) (by kernel_rfl) (by kernel_rfl) ?_ (Or.inl ⟨?_, ?_⟩) hHeld ?_
          rotate_left 2
          · simp only [List.getElem?_toArray, List.getElem?_cons_succ, List.getElem?_cons_zero]; rfl
          · exact fun _ _ _ h => h
          · rfl
          · intro w hSw; (try dsimp only at hSw); go_simp; try (with_reducible rfl)
          try simp only [Act.put, List.setIfInBounds_toArray, List.set_cons_zero, List.set_cons_succ]
          refine wpAnyH_take (i := 5) (oi := ?_) (v := ?_) ?_ (by kernel_rfl) (by kernel_rfl) (by kernel_rfl) ?_ (Or.inl ⟨?_, ?_⟩) hHeld ?_
          rotate_left 2
          · simp only [List.getElem?_toArray, List.getElem?_cons_succ, List.getElem?_cons_zero]; rfl
          · exact fun _ _ _ h => h
          · rfl
          · intro w hSw; (try dsimp only at hSw); go_simp; try (with_reducible rfl)
          try simp only [Act.put, List.setIfInBounds_toArray, List.set_cons_zero, List.set_cons_succ]
          refine wpAnyH_take (i := 6) (oi := ?_) (v := ?_) ?_ (by kernel_rfl) (by kernel_rfl) (by kernel_rfl) ?_ (Or.inl ⟨?_, ?_⟩) hHeld ?_
          rotate_left 2
          · simp only [List.getElem?_toArray, List.getElem?_cons_succ, List.getElem?_cons_zero]; rfl
          · exact fun _ _ _ h => h
          · rfl
          · intro w hSw; (try dsimp only at hSw); go_simp; try (with_reducible rfl)
          try simp only [Act.put, List.setIfInBounds_toArray, List.set_cons_zero, List.set_cons_succ]
          refine wpAnyH_take (i := 7) (oi := ?_) (v := ?_) ?_ (by kernel_rfl) (by kernel_rfl) (by kernel_rfl) ?_ (Or.inl ⟨?_, ?_⟩) hHeld ?_
          rotate_left 2
          · simp only [List.getElem?_toArray, List.getElem?_cons_succ, List.getElem?_cons_zero]; rfl
          · exact fun _ _ _ h => h
          · rfl
          · intro w hSw; (try dsimp only at hSw); go_simp; try (with_reducible rfl)
          try simp only [Act.put, List.setIfInBounds_toArray, List.set_cons_zero, List.set_cons_succ]
          refine wpAnyH_ready (rs := [8]) (by kernel_rfl) (by simp) ?_
          refine AllReadyH.cons (o := ?_) ?_ (fun K hK => ?_) ?_
          rotate_left
          · simp only [List.getElem?_toArray, List.getElem?_cons_succ, List.getElem?_cons_zero]; rfl
          · go_simp
            go_at_call 9
            refine (HStp.out _ HBw.out).mono ?_
            rintro e w5 ⟨a5, c5, rfl, ho5, hb5⟩
            have HBw5 := Lib.hid (HBw.out.trans (hb5.mono HLW.out.own.size))
            have HLW5 := Lib.hid ((HLW.out.quiet ((Mod.refl [] wr).drew)).quiet (Mod.ofBelow hb5))
            clear ho5 hb5
            go_simp
            refine hK.out _ _ (HC.out _ HBw5.out) ?_
            clear hK K hHeld
            intro hHeld
            try simp only [Act.put, List.setIfInBounds_toArray, List.set_cons_zero, List.set_cons_succ]
            refine wpAnyH_take (i := 9) (oi := ?_) (v := ?_) ?_ (by kernel_rfl) (by kernel_rfl) (by kernel_rfl) ?_ (Or.inl ⟨?_, ?_⟩) hHeld ?_
            rotate_left 2
            · simp only [List.getElem?_toArray, List.getElem?_cons_succ, List.getElem?_cons_zero]; rfl
            · exact fun _ _ _ h => h
            · rfl
            · intro w hSw; (try dsimp only at hSw); go_simp; try (with_reducible rfl)
            try simp only [Act.put, List.setIfInBounds_toArray, List.set_cons_zero, List.set_cons_succ]
            refine wpAnyH_take (i := 10) (oi := ?_) (v := ?_) ?_ (by kernel_rfl) (by kernel_rfl) (by kernel_rfl) ?_ (Or.inl ⟨?_, ?_⟩) hHeld ?_
            rotate_left 2
            · simp only [List.getElem?_toArray, List.getElem?_cons_succ, List.getElem?_cons_zero]; rfl
            · exact fun _ _ _ h => h
            · rfl
            · intro w hSw; (try dsimp only at hSw); go_simp; try (with_reducible rfl)
            try simp only [Act.put, List.setIfInBounds_toArray, List.set_cons_zero, List.set_cons_succ]
            refine wpAnyH_take (i := 11) (oi := ?_) (v := ?_) ?_ (by kernel_rfl) (by kernel_rfl) (by kernel_rfl) ?_ (Or.inl ⟨?_, ?_⟩) hHeld ?_
            rotate_left 2
            · simp only [List.getElem?_toArray, List.getElem?_cons_succ, List.getElem?_cons_zero]; rfl
            · exact fun _ _ _ h => h
            · rfl
            · intro w hSw; (try dsimp only at hSw); go_simp; try (with_reducible rfl)
            try simp only [Act.put, List.setIfInBounds_toArray, List.set_cons_zero, List.set_cons_succ]
            refine wpAnyH_take (i := 12) (oi := ?_) (v := ?_) ?_ (by kernel_rfl) (by kernel_rfl) (by kernel_rfl) ?_ (Or.inl ⟨?_, ?_⟩) hHeld ?_
            rotate_left 2
            · simp only [List.getElem?_toArray, List.getElem?_cons_succ, List.getElem?_cons_zero]; rfl
            · exact fun _ _ _ h => h
            · rfl
            · intro w hSw; (try dsimp only at hSw); go_simp; try (with_reducible rfl)
            try simp only [Act.put, List.setIfInBounds_toArray, List.set_cons_zero, List.set_cons_succ]
            refine wpAnyH_take (i := 13) (oi := ?_) (v := ?_) ?_ (by kernel_rfl) (by kernel_rfl) (by kernel_rfl) ?_ (Or.inl ⟨?_, ?_⟩) hHeld ?_
            rotate_left 2
            · simp only [List.getElem?_toArray, List.getElem?_cons_succ, List.getElem?_cons_zero]; rfl
            · exact fun _ _ _ h => h
            · rfl
            · intro w hSw; (try dsimp only at hSw); go_simp; try (with_reducible rfl)
            try simp only [Act.put, List.setIfInBounds_toArray, List.set_cons_zero, List.set_cons_succ]
            refine wpAnyH_done (by kernel_rfl) ?_ _
            go_wp2_with fail
            go_quiet (fail)
            go_wp2_with fail
            go_roundw
            case rel => exact ⟨k + 1, m, a, n, c, rfl, by go_num, by have := HLtk.out; omega, by rw [HSt2.out]; exact HNn.out, by rw [HSt2.out]; exact HCA.out, by rw [HSt2.out]; first | exact HLW5.out | exact HLW5.out.quiet ((Mod.refl [] w5).drew) | exact HLW5.out.quiet (mod_drewN _ _)⟩
            case measure => have := HLtk.out; simp [intOf]; omega
          exact AllReadyH.nil
      · have HBe := Lib.hid HLW.out.own.below
        obtain ⟨z0, z1, z2, z3, z4, z5, z6⟩ := JobRow.cells HLW.out.row
        obtain ⟨cc, hcc⟩ : ∃ cc : Nat, min cx (n : Int) = (cc : Int) := Int.eq_ofNat_of_zero_le (by have := HCx.out.1; omega)
        have HCc := Lib.hid hcc
        have hccn : cc ≤ n := by omega
        have hncap : n ≤ c := owns_le HLW.out.own.own
        obtain ⟨a7, hsl7, hcl7⟩ := slice8_to (P := Tryd.prog) 26 5 Tryd.underlying26 Tryd.sizeOf5 a n c cc hccn hncap
        have hc7 := hcl7 wr (flL j (stOf N ts ss k)) HNn.out.symm HLW.out.own.cells
        have hfl : (flL j (stOf N ts ss k)).length ≤ 200000 := by
          have h1 := HFlen.out (stOf N ts ss k)
          have h2 := stOf_len N ts ss k
          have := HKl.out
          have := HG1.out
          omega
        have HRe := Lib.hid (read_job ((flL j (stOf N ts ss k)).take cc) a7 cc c wr hc7 (by rw [List.length_take, ← HNn.out]; omega) (by rw [List.length_take]; omega) (by rw [List.length_take]; omega) (HIn.out wr HBe.out).2.2.2)
        unfold ReadP at HRe
        have HRS : Hid (∀ (J : Jb) (u er : Int), ReadsTo ((flL j (stOf N ts ss k)).take cc) J u er → er = 0 ∧ u ≤ (cc : Int) ∧ J = { j with sts := app j.sts ((stOf N ts ss k).take m) }) := Lib.hid (fun J u er h => steps_read HGj.out HJ.out.body.1 (by rw [HN.out]; exact stOf_ok N ts ss k) HCA.out (by rw [← HCc.out, HNn.out]) h)
        clear hcl7 hc7 hfl hccn hncap
        by_cases hl1 : (k : Int) < (n1 : Int)
        · have hl2 : ¬ (k : Int) < (n2 : Int) := by omega
          clear hlt
          go_wp2_with fail
          refine HRe.out.mono ?_
          rintro e w7 ⟨J, pJ, u, er, rfl, hJ, hb7, hrt, hfar⟩
          obtain ⟨rfl, hu, hJe⟩ := HRS.out _ _ _ hrt
          have hLW7 := HLW.out.quiet (Mod.ofBelow hb7)
          have hA : Mod [] w7 (w7.alloc (.cells (jbC J pJ) 28)) := (Mod.refl [] w7).alloc _
          have hLW8 := hLW7.quiet hA
          have hS : Mod [w.heap.size] (w7.alloc (.cells (jbC J pJ) 28)) ((w7.alloc (.cells (jbC J pJ) 28)).setCell ⟨w.heap.size, 5, none⟩ (.slice a4 sl c4)) := (Mod.refl [w.heap.size] _).setCell (Or.inl (by simp)) _
          have hgr := heap_alloc_new w7 (.cells (jbC J pJ) 28)
          have hglt : w.heap.size < w7.heap.size := blk_lt hLW7.row
          have hal : (app j.sts ((stOf N ts ss k).take m)).length = sl := by rw [app_length]; exact HSl.out
          have hbel : Below w.heap.size w ((w7.alloc (.cells (jbC J pJ) 28)).setCell ⟨w.heap.size, 5, none⟩ (.slice a4 sl c4)) := hLW8.own.below.trans (hS.toBelow hLW8.own.size (by simp))
          have hjb := (HIn.out _ hbel).1
          have hwant9 := hS.owns hLW8.want (fun q hq hx => by
            simp at hx; subst hx
            exact ne_type hLW8.row (show 28 ≠ 37 by decide) (owns_isT hLW8.want hq))
          rw [hal] at hwant9
          have hJ9 : JobAt ((w7.alloc (.cells (jbC J pJ) 28)).setCell ⟨w.heap.size, 5, none⟩ (.slice a4 sl c4)) { j with sts := app j.sts ((stOf N ts ss k).take m) } { p with sa := a4, sc := c4 } := ⟨hjb.to, CellsK.ofOwns stC_size (by decide) hwant9 hal.symm, hjb.body, hjb.tn, by show (app j.sts ((stOf N ts ss k).take m)).length ≤ c4; rw [hal]; exact owns_le hwant9, hjb.bn⟩
          have hG9 := (hJ.quiet hA).far hfar hS (blk_lt HLW.out.row)
          have hrow9 : ((w7.alloc (.cells (jbC J pJ) 28)).setCell ⟨w.heap.size, 5, none⟩ (.slice a4 sl c4)).heap[w.heap.size]? = some (.cells (jbC { j with sts := app j.sts ((stOf N ts ss k).take m) } { p with sa := a4, sc := c4 }) 28 (0, 0)) := by
            have h := blk_set hLW8.row 5 (.slice a4 sl c4)
            rw [h]
            simp [jbC, hal]
          have hgr9 := hS.row hgr (by simp; omega)
          have b5 := blk_free hLW8.row 5
          have b5' := blk_cell hLW8.row 5
          have HJ9 := Lib.hid hJ9
          have HG9 := Lib.hid hG9
          have HRw9 := Lib.hid hrow9
          have HGr9 := Lib.hid hgr9
          have HBel := Lib.hid hbel
          have HJe := Lib.hid hJe
          have HNt : Hid (J.to.length ≤ 1000000 ∧ J.sts.length ≤ 1000000) := Lib.hid ⟨by rw [hJe]; show j.to.length ≤ _; have := HN.out; have := HN20.out; omega, by rw [hJe]; show (app j.sts ((stOf N ts ss k).take m)).length ≤ _; rw [hal]; have := HSlN.out; have := HN20.out; omega⟩
          obtain ⟨w9, hw9⟩ : ∃ w9, (w7.alloc (.cells (jbC J pJ) 28)).setCell ⟨w.heap.size, 5, none⟩ (.slice a4 sl c4) = w9 := ⟨_, rfl⟩
          rw [hw9] at HJ9 HG9 HRw9 HGr9 HBel
          obtain ⟨gr, hgr'⟩ : ∃ gr, w7.heap.size = gr := ⟨_, rfl⟩
          rw [hgr'] at HGr9
          have HSm : Hid (∀ W, Mod [] w9 W → Calls Tryd.prog 11 #[.agg (jbC J pJ), .agg (jbC { j with sts := app j.sts ((stOf N ts ss k).take m) } { p with sa := a4, sc := c4 })] W (StP true W)) := Lib.hid (fun W hm => by
            have h := same_job W J _ pJ _ (HG9.out.quiet hm) (HJ9.out.quiet hm) HNt.out.1 HNt.out.2
            rw [← HJe.out, sameB_refl] at h
            exact HJe.out ▸ h)
          have HRm : Hid (∀ W, Mod [] w9 W → Calls Tryd.prog 12 #[.agg (jbC J pJ), .agg (jbC { j with sts := app j.sts ((stOf N ts ss k).take m) } { p with sa := a4, sc := c4 })] W (StP true W)) := Lib.hid (fun W hm => by
            have h := rsame_job W J _ pJ _ (HG9.out.quiet hm) (HJ9.out.quiet hm) HNt.out.1 HNt.out.2
            rw [← HJe.out, sameB_refl] at h
            exact HJe.out ▸ h)
          unfold StP at HSm HRm
          have HM9 := Lib.hid (Mod.refl [] w9)
          clear hJ hb7 hrt hfar hLW7 hA hLW8 hS hgr hglt hbel hjb hwant9 hJ9 hG9 hrow9 hgr9 hJe HRe z0 z1 z2 z3 z4 z5 z6
          obtain ⟨e0, e1, e2, e3, e4, e5, e6⟩ := JobRow.cells HRw9.out
          obtain ⟨f0, f1, f2, f3, f4, f5, f6⟩ := JobRow.cells HGr9.out
          simp only [hal] at e5
          simp only [jbC, hal] at HSm HRm
          go_wp2_with (first | (go_at_call 11; refine (HSm.out _ HM9.out).mono ?_; rintro e w10 ⟨rfl, hm⟩; have HM10 := Lib.hid hm; obtain ⟨e0, e1, e2, e3, e4, e5, e6⟩ := JobRow.cells (hm.row HRw9.out (by simp)); simp only [hal] at e5; obtain ⟨f0, f1, f2, f3, f4, f5, f6⟩ := JobRow.cells (hm.row HGr9.out (by simp)); clear hm) | (go_at_call 12; refine (HRm.out _ HM10.out).mono ?_; rintro e w11 ⟨rfl, hm⟩; have HM11 := Lib.hid hm; clear hm))
          go_ret
          exact ⟨rfl, HBel.out.trans ((HM10.out.trans HM11.out).toBelow HBel.out.size (by simp))⟩
        · clear hlt
          go_wp2_with fail
          refine HRe.out.mono ?_
          rintro e w7 ⟨J, pJ, u, er, rfl, hJ, hb7, hrt, hfar⟩
          obtain ⟨rfl, hu, hJe⟩ := HRS.out _ _ _ hrt
          have hLW7 := HLW.out.quiet (Mod.ofBelow hb7)
          have hA : Mod [] w7 (w7.alloc (.cells (jbC J pJ) 28)) := (Mod.refl [] w7).alloc _
          have hLW8 := hLW7.quiet hA
          have hS : Mod [w.heap.size] (w7.alloc (.cells (jbC J pJ) 28)) ((w7.alloc (.cells (jbC J pJ) 28)).setCell ⟨w.heap.size, 5, none⟩ (.slice a4 sl c4)) := (Mod.refl [w.heap.size] _).setCell (Or.inl (by simp)) _
          have hgr := heap_alloc_new w7 (.cells (jbC J pJ) 28)
          have hglt : w.heap.size < w7.heap.size := blk_lt hLW7.row
          have hal : (app j.sts ((stOf N ts ss k).take m)).length = sl := by rw [app_length]; exact HSl.out
          have hbel : Below w.heap.size w ((w7.alloc (.cells (jbC J pJ) 28)).setCell ⟨w.heap.size, 5, none⟩ (.slice a4 sl c4)) := hLW8.own.below.trans (hS.toBelow hLW8.own.size (by simp))
          have hjb := (HIn.out _ hbel).1
          have hwant9 := hS.owns hLW8.want (fun q hq hx => by
            simp at hx; subst hx
            exact ne_type hLW8.row (show 28 ≠ 37 by decide) (owns_isT hLW8.want hq))
          rw [hal] at hwant9
          have hJ9 : JobAt ((w7.alloc (.cells (jbC J pJ) 28)).setCell ⟨w.heap.size, 5, none⟩ (.slice a4 sl c4)) { j with sts := app j.sts ((stOf N ts ss k).take m) } { p with sa := a4, sc := c4 } := ⟨hjb.to, CellsK.ofOwns stC_size (by decide) hwant9 hal.symm, hjb.body, hjb.tn, by show (app j.sts ((stOf N ts ss k).take m)).length ≤ c4; rw [hal]; exact owns_le hwant9, hjb.bn⟩
          have hG9 := (hJ.quiet hA).far hfar hS (blk_lt HLW.out.row)
          have hrow9 : ((w7.alloc (.cells (jbC J pJ) 28)).setCell ⟨w.heap.size, 5, none⟩ (.slice a4 sl c4)).heap[w.heap.size]? = some (.cells (jbC { j with sts := app j.sts ((stOf N ts ss k).take m) } { p with sa := a4, sc := c4 }) 28 (0, 0)) := by
            have h := blk_set hLW8.row 5 (.slice a4 sl c4)
            rw [h]
            simp [jbC, hal]
          have hgr9 := hS.row hgr (by simp; omega)
          have b5 := blk_free hLW8.row 5
          have b5' := blk_cell hLW8.row 5
          have HJ9 := Lib.hid hJ9
          have HG9 := Lib.hid hG9
          have HRw9 := Lib.hid hrow9
          have HGr9 := Lib.hid hgr9
          have HBel := Lib.hid hbel
          have HJe := Lib.hid hJe
          have HNt : Hid (J.to.length ≤ 1000000 ∧ J.sts.length ≤ 1000000) := Lib.hid ⟨by rw [hJe]; show j.to.length ≤ _; have := HN.out; have := HN20.out; omega, by rw [hJe]; show (app j.sts ((stOf N ts ss k).take m)).length ≤ _; rw [hal]; have := HSlN.out; have := HN20.out; omega⟩
          obtain ⟨w9, hw9⟩ : ∃ w9, (w7.alloc (.cells (jbC J pJ) 28)).setCell ⟨w.heap.size, 5, none⟩ (.slice a4 sl c4) = w9 := ⟨_, rfl⟩
          rw [hw9] at HJ9 HG9 HRw9 HGr9 HBel
          obtain ⟨gr, hgr'⟩ : ∃ gr, w7.heap.size = gr := ⟨_, rfl⟩
          rw [hgr'] at HGr9
          have HSm : Hid (∀ W, Mod [] w9 W → Calls Tryd.prog 11 #[.agg (jbC J pJ), .agg (jbC { j with sts := app j.sts ((stOf N ts ss k).take m) } { p with sa := a4, sc := c4 })] W (StP true W)) := Lib.hid (fun W hm => by
            have h := same_job W J _ pJ _ (HG9.out.quiet hm) (HJ9.out.quiet hm) HNt.out.1 HNt.out.2
            rw [← HJe.out, sameB_refl] at h
            exact HJe.out ▸ h)
          have HRm : Hid (∀ W, Mod [] w9 W → Calls Tryd.prog 12 #[.agg (jbC J pJ), .agg (jbC { j with sts := app j.sts ((stOf N ts ss k).take m) } { p with sa := a4, sc := c4 })] W (StP true W)) := Lib.hid (fun W hm => by
            have h := rsame_job W J _ pJ _ (HG9.out.quiet hm) (HJ9.out.quiet hm) HNt.out.1 HNt.out.2
            rw [← HJe.out, sameB_refl] at h
            exact HJe.out ▸ h)
          unfold StP at HSm HRm
          have HM9 := Lib.hid (Mod.refl [] w9)
          clear hJ hb7 hrt hfar hLW7 hA hLW8 hS hgr hglt hbel hjb hwant9 hJ9 hG9 hrow9 hgr9 hJe HRe z0 z1 z2 z3 z4 z5 z6
          obtain ⟨e0, e1, e2, e3, e4, e5, e6⟩ := JobRow.cells HRw9.out
          obtain ⟨f0, f1, f2, f3, f4, f5, f6⟩ := JobRow.cells HGr9.out
          simp only [hal] at e5
          simp only [jbC, hal] at HSm HRm
          go_wp2_with (first | (go_at_call 11; refine (HSm.out _ HM9.out).mono ?_; rintro e w10 ⟨rfl, hm⟩; have HM10 := Lib.hid hm; obtain ⟨e0, e1, e2, e3, e4, e5, e6⟩ := JobRow.cells (hm.row HRw9.out (by simp)); simp only [hal] at e5; obtain ⟨f0, f1, f2, f3, f4, f5, f6⟩ := JobRow.cells (hm.row HGr9.out (by simp)); clear hm) | (go_at_call 12; refine (HRm.out _ HM10.out).mono ?_; rintro e w11 ⟨rfl, hm⟩; have HM11 := Lib.hid hm; clear hm))
          go_ret
          exact ⟨rfl, HBel.out.trans ((HM10.out.trans HM11.out).toBelow HBel.out.size (by simp))⟩
end Go.Proofs.YtbhdlclaooohfaaDoor

