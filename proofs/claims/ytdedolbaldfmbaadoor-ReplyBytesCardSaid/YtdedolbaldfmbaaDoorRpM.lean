/- Replies: rows of replies; the program's All. -/
import Derived.Test.YtdedolbaldfmbaaDoorRpL
namespace Go.Proofs.YtdedolbaldfmbaaDoor
open Go.Shelf Go.ChangeShapes Go.WideShapes Go.ChangeAt Go.RowKit
set_option linter.unusedVariables false
set_option linter.unusedSimpArgs false

/-- texts that stand apart from what is made from block B on, rows of texts aside -/
def TxA (B : Nat) (W : World) (a : Option Addr) (L : List (List Int)) : Prop := CellsS W a L ∧ (L = [] ∨ ∃ x, a = some x ∧ (x.block < B ∨ IsT 9 W x.block))
theorem TxT.apart {W : World} {a : Option Addr} {L : List (List Int)} (h : TxT W a L) (B : Nat) : TxA B W a L := ⟨h.1, h.2.imp id fun ⟨x, h1, h2⟩ => ⟨x, h1, Or.inr h2⟩⟩
theorem TxA.mod {B : Nat} {F : List Nat} {W W' : World} {a : Option Addr} {L : List (List Int)} (h : TxA B W a L) (hm : Mod F W W') (hF : ∀ k ∈ F, B ≤ k ∧ ¬ IsT 9 W k) : TxA B W' a L := by
  obtain ⟨h1, h2⟩ := h
  rcases h2 with rfl | ⟨x, rfl, h3⟩
  · exact ⟨CellsS.nil _ _, .inl rfl⟩
  · have hx : x.block ∉ F := fun hx => by
      have := hF _ hx
      rcases h3 with h3 | h3
      · omega
      · exact this.2 h3
    refine ⟨h1.mod hm (by intro y hy; cases hy; exact hx), .inr ⟨x, rfl, h3.imp id (fun h => h.mod hm hx)⟩⟩
theorem TxA.quiet {B : Nat} {W W' : World} {a : Option Addr} {L : List (List Int)} (h : TxA B W a L) (hm : Mod [] W W') : TxA B W' a L := h.mod hm (by simp)
/-- replies as cells, one behind the other -/
def RepCs (B : Nat) (W : World) : List RepD → List Value → Prop
  | [], cs => cs = []
  | r :: rs, cs => ∃ en a cap t, cs = .int .i64 r.code :: .string en :: .slice a r.lines.length cap :: t ∧ nums en = r.enh ∧ TxA B W a r.lines ∧ RepCs B W rs t
theorem RepCs.mod {B : Nat} {F : List Nat} {W W' : World} (hm : Mod F W W') (hF : ∀ k ∈ F, B ≤ k ∧ ¬ IsT 9 W k) : ∀ {rs : List RepD} {cs : List Value}, RepCs B W rs cs → RepCs B W' rs cs
  | [], _, h => h
  | r :: rs, _, ⟨en, a, cap, t, h1, h2, h3, h4⟩ => ⟨en, a, cap, t, h1, h2, h3.mod hm hF, RepCs.mod hm hF h4⟩
theorem RepCs.len {B : Nat} {W : World} : ∀ {rs : List RepD} {cs : List Value}, RepCs B W rs cs → cs.length = 3 * rs.length
  | [], _, h => by subst h; rfl
  | r :: rs, _, ⟨en, a, cap, t, h1, h2, h3, h4⟩ => by
    have := h4.len
    subst h1
    simp only [List.length_cons]; omega
theorem RepCs.snoc {B : Nat} {W : World} {r : RepD} {en : ByteArray} {a : Option Addr} {cap : Nat} (h1 : nums en = r.enh) (h2 : TxA B W a r.lines) : ∀ {rs : List RepD} {cs : List Value}, RepCs B W rs cs → RepCs B W (rs ++ [r]) (cs ++ [.int .i64 r.code, .string en, .slice a r.lines.length cap])
  | [], _, h => by subst h; exact ⟨en, a, cap, [], rfl, h1, h2, rfl⟩
  | q :: rs, _, ⟨en', a', cap', t, k1, k2, k3, k4⟩ => by
    subst k1
    exact ⟨en', a', cap', _, rfl, k2, k3, RepCs.snoc h1 h2 k4⟩
/-- the i-th reply's cells -/
theorem RepCs.at_ {B : Nat} {W : World} : ∀ {rs : List RepD} {cs : List Value} (i : Nat) (hi : i < rs.length), RepCs B W rs cs → ∃ en a cap, cs[3 * i]? = some (.int .i64 (rs.getD i .zero).code) ∧ cs[3 * i + 1]? = some (.string en) ∧ cs[3 * i + 2]? = some (.slice a (rs.getD i .zero).lines.length cap) ∧ nums en = (rs.getD i .zero).enh ∧ TxA B W a (rs.getD i .zero).lines
  | r :: rs, _, 0, _, ⟨en, a, cap, t, h1, h2, h3, h4⟩ => by subst h1; exact ⟨en, a, cap, rfl, rfl, rfl, h2, h3⟩
  | r :: rs, _, i + 1, hi, ⟨en, a, cap, t, h1, h2, h3, h4⟩ => by
    obtain ⟨en', a', cap', k1, k2, k3, k4, k5⟩ := RepCs.at_ i (by simpa using hi) h4
    subst h1
    refine ⟨en', a', cap', ?_, ?_, ?_, by simpa using k4, by simpa using k5⟩
    · rw [show 3 * (i + 1) = 3 * i + 3 by omega]; simpa using k1
    · rw [show 3 * (i + 1) + 1 = (3 * i + 1) + 3 by omega]; simpa using k2
    · rw [show 3 * (i + 1) + 2 = (3 * i + 2) + 3 by omega]; simpa using k3
/-- a row of replies of the call's own, made since there were B blocks -/
def OwnR (B : Nat) (W : World) (v : Value) (n : Nat) (rs : List RepD) : Prop := ∃ cs, W.ownsRow B 24 3 v n cs ∧ RepCs B W rs cs
theorem OwnR.len {B : Nat} {W : World} {v : Value} {n : Nat} {rs : List RepD} (h : OwnR B W v n rs) : n = rs.length := by
  obtain ⟨cs, h1, h2⟩ := h
  have := h2.len
  have := h1.1
  omega
theorem OwnR.nil (B : Nat) (W : World) : OwnR B W (.slice none 0 0) 0 [] := ⟨[], World.ownsRow_nil _ _ _ _, rfl⟩
theorem OwnR.mod {B : Nat} {F : List Nat} {W W' : World} {v : Value} {n : Nat} {rs : List RepD} (h : OwnR B W v n rs) (hm : Mod F W W') (hv : ∀ k, v.ownBlock = some k → k ∉ F) (hF : ∀ k ∈ F, B ≤ k ∧ ¬ IsT 9 W k) : OwnR B W' v n rs := by
  obtain ⟨cs, h1, h2⟩ := h
  exact ⟨cs, hm.owns h1 hv, h2.mod hm hF⟩
theorem OwnR.quiet {B : Nat} {W W' : World} {v : Value} {n : Nat} {rs : List RepD} (h : OwnR B W v n rs) (hm : Mod [] W W') : OwnR B W' v n rs := h.mod hm (by simp) (by simp)
theorem infoR : (Tryd.prog.info? 24).map (fun i => (i.zero, i.size, i.bytes)) = some (some (.agg #[.int .i64 0, .string ByteArray.empty, .slice none 0 0]), 3, 48) := by kernel_rfl
theorem sizeR3 : ∀ w, (Go.sizeOf 24).run Tryd.prog w = .ok 3 w := fun w => by kernel_rfl
/-- one new reply as what is appended -/
theorem src_rep (w : World) (c : Int) (e : ByteArray) (a : Option Addr) (n cap : Nat) {tx e' : TypeId} (hk : Tryd.prog.underlying tx = some (.slice e')) : Src Tryd.prog 3 tx (.slice (some ⟨w.heap.size, 0, none⟩) 1 1) 1 [.int .i64 c, .string e, .slice a n cap] (w.alloc (.cells (repC c e a n cap) 24)) := by
  refine Src.ofSlice _ hk _ 1 1 [.int .i64 c, .string e, .slice a n cap] rfl ?_ (by intro u hu; simp at hu; rcases hu with rfl | rfl | rfl <;> rfl)
  intro j u hu
  rw [Addr.add_lit, Nat.zero_add, blk_cell (heap_alloc_new w _) j]
  simpa using hu
theorem step_append_src {P : Program} (w : World) {ops : Array Oper} {o : Oper} {a : Act} {K : Act → World → Prop} {Q : Exit → Act → World → Prop} {E : Prop} (hgd : o.guard = none) (s x : Operand) (t tx : TypeId)
    (ho : o.op = .call { callee := .builtin .append, args := #[s, x], argTypes := #[t, tx] })
    (base : Nat) (e : TypeId) (size bytes : Nat) (z : Value) (ht : P.underlying t = some (.slice e)) (hi : (P.info? e).map (fun i => (i.zero, i.size, i.bytes)) = some (some z, size, bytes)) (hzs : z.cells.size = size)
    (v : Value) (n : Nat) (xs : List Value) (hs : a.eval s = v) (hown : w.ownsRow base e size v n xs)
    (xv : Value) (m : Nat) (news : List Value) (hx : a.eval x = xv) (hsrc : Src P size tx xv m news w) (h63 : n + m ≤ maxLen) (hby : (n + m) * bytes ≤ 140737488355328) (hbase : base ≤ w.heap.size)
    (h : ∀ v' w', w'.ownsRow base e size v' (n + m) (xs ++ news) → Mod v.ownBlock.toList w w' → (v'.ownBlock = v.ownBlock ∨ v'.ownBlock = some w.heap.size) → K (a.put o.dst v') w') : if Region.wanted o (yielded ops a.tmps) = true then Oper.wp P o a w K Q else E := by
  have hw : Region.wanted o (yielded ops a.tmps) = true := by simp [Region.wanted, hgd]
  rw [if_pos hw]
  obtain ⟨i, hi1, hi2, hi3, hi4⟩ := info_parts hi
  obtain ⟨v', w', hr, h1, h2, h3⟩ := run_append_src (P := P) w base t tx o.type e i z size bytes ht hi1 hi2 hi3 hi4 hzs v n xs hown xv m news hsrc h63 hby hbase
  unfold Oper.wp execOp
  simp only [ho, resolve, invoke, builtin, Sem.run_bind, Sem.run_pure, Result.andThen_ok, List.map_toArray, List.map_cons, List.map_nil, hs, hx, hr]
  exact h v' w' h1 (Mod.ofGrown h2) h3
section
variable {ops : Array Oper} {rest : List Oper} {o : Oper} {a : Act} {Q : Exit → Act → World → Prop}
theorem wpList_appR (w : World) (hgd : o.guard = none) (s x : Operand) (t tx : TypeId)
    (ho : o.op = .call { callee := .builtin .append, args := #[s, x], argTypes := #[t, tx] }) (ht : Tryd.prog.underlying t = some (.slice 24)) (htx : Tryd.prog.underlying tx = some (.slice 24))
    (B : Nat) (w0 : World) (v : Value) (n : Nat) (rs : List RepD) (HO : OwnR B w0 v n rs) (hB : B ≤ w0.heap.size) (hs : a.eval s = v)
    (r : RepD) (en : ByteArray) (sa : Option Addr) (nl cap : Nat) (hen : nums en = r.enh) (hnl : nl = r.lines.length) (hT : TxA B w0 sa r.lines) (hw : w = w0.alloc (.cells (repC r.code en sa nl cap) 24)) (g : Nat) (hg : w0.heap.size = g) (hx : a.eval x = .slice (some ⟨g, 0, none⟩) 1 1) (h63 : n ≤ 1000000)
    (h : ∀ a' n' c' w', OwnR B w' (.slice a' n' c') n' (rs ++ [r]) → Mod v.ownBlock.toList w0 w' → wpList Tryd.prog ops Q rest (a.put o.dst (.slice a' n' c')) w') : wpList Tryd.prog ops Q (o :: rest) a w := by
  subst hw
  subst hg
  subst hnl
  obtain ⟨i, hi1, hi2, hi3, hi4⟩ := info_parts infoR
  have hm0 : Mod [] w0 (w0.alloc (.cells (repC r.code en sa r.lines.length cap) 24)) := (Mod.refl [] w0).alloc _
  obtain ⟨cs, h1, h2⟩ := HO.quiet hm0
  refine wpList_append_src _ hgd s x t tx ho B 24 i _ 3 48 ht hi1 hi2 hi3 hi4 rfl v _ _ hs h1 _ _ _ hx (src_rep w0 r.code en sa _ cap htx) (by simp only [maxLen]; omega) (by omega) (Nat.le_trans hB hm0.size) ?_
  intro v' w' k1 k2 k3
  obtain ⟨a', c', rfl, -, -⟩ := owns_shape k1
  have hF : ∀ k ∈ v.ownBlock.toList, B ≤ k ∧ ¬ IsT 9 (w0.alloc (.cells (repC r.code en sa r.lines.length cap) 24)) k := by
    intro k hk
    have hk' : v.ownBlock = some k := by simpa using hk
    exact ⟨(owns_lt h1 hk').1, (owns_isT h1 hk').ne (by decide)⟩
  exact h a' _ c' w' ⟨_, k1, RepCs.snoc hen ((hT.quiet hm0).mod (Mod.ofGrown k2) hF) (h2.mod (Mod.ofGrown k2) hF)⟩ ((hm0.mono (by simp)).trans (Mod.ofGrown k2))
end
section
variable {ops : Array Oper} {o : Oper} {a : Act} {K : Act → World → Prop} {Q : Exit → Act → World → Prop} {E : Prop}
theorem step_appR (w : World) (hgd : o.guard = none) (s x : Operand) (t tx : TypeId)
    (ho : o.op = .call { callee := .builtin .append, args := #[s, x], argTypes := #[t, tx] }) (ht : Tryd.prog.underlying t = some (.slice 24)) (htx : Tryd.prog.underlying tx = some (.slice 24))
    (B : Nat) (w0 : World) (v : Value) (n : Nat) (rs : List RepD) (HO : OwnR B w0 v n rs) (hB : B ≤ w0.heap.size) (hs : a.eval s = v)
    (r : RepD) (en : ByteArray) (sa : Option Addr) (nl cap : Nat) (hen : nums en = r.enh) (hnl : nl = r.lines.length) (hT : TxA B w0 sa r.lines) (hw : w = w0.alloc (.cells (repC r.code en sa nl cap) 24)) (g : Nat) (hg : w0.heap.size = g) (hx : a.eval x = .slice (some ⟨g, 0, none⟩) 1 1) (h63 : n ≤ 1000000)
    (h : ∀ a' n' c' w', OwnR B w' (.slice a' n' c') n' (rs ++ [r]) → Mod v.ownBlock.toList w0 w' → K (a.put o.dst (.slice a' n' c')) w') : if Region.wanted o (yielded ops a.tmps) = true then Oper.wp Tryd.prog o a w K Q else E := by
  subst hw
  subst hg
  subst hnl
  have hm0 : Mod [] w0 (w0.alloc (.cells (repC r.code en sa r.lines.length cap) 24)) := (Mod.refl [] w0).alloc _
  obtain ⟨cs, h1, h2⟩ := HO.quiet hm0
  refine step_append_src _ hgd s x t tx ho B 24 3 48 _ ht infoR rfl v _ _ hs h1 _ _ _ hx (src_rep w0 r.code en sa _ cap htx) (by simp only [maxLen]; omega) (by omega) (Nat.le_trans hB hm0.size) ?_
  intro v' w' k1 k2 k3
  obtain ⟨a', c', rfl, -, -⟩ := owns_shape k1
  have hF : ∀ k ∈ v.ownBlock.toList, B ≤ k ∧ ¬ IsT 9 (w0.alloc (.cells (repC r.code en sa r.lines.length cap) 24)) k := by
    intro k hk
    have hk' : v.ownBlock = some k := by simpa using hk
    exact ⟨(owns_lt h1 hk').1, (owns_isT h1 hk').ne (by decide)⟩
  exact h a' _ c' w' ⟨_, k1, RepCs.snoc hen ((hT.quiet hm0).mod k2 hF) (h2.mod k2 hF)⟩ ((hm0.mono (by simp)).trans k2)
end
def AllP (x : List RepD × Int) (w : World) (e : Ending) (w' : World) : Prop := ∃ a n cap, e = .returned (.tuple #[.slice a n cap, .int .i64 x.2]) ∧ OwnR w.heap.size w' (.slice a n cap) n x.1 ∧ Mod [] w w'
set_option maxRecDepth 100000 in
set_option maxHeartbeats 4000000 in
theorem all_any (w : World) (hE : Env w) (a : Option Addr) (n cap : Nat) (l : List Int) (h : Bin w a n cap l) (enh : Bool) (hn : l.length ≤ 100000) :
    Calls Tryd.prog 19 #[.slice a n cap, .bool enh] w (AllP (allR enh [] l) w) := by
  have HE := Lib.hid (fun (W : World) (hm : Mod [] w W) => hE.quiet hm)
  have HB := Lib.hid h
  clear hE h
  go_enter Tryd.func19, Tryd.ntmps19
  go_wp2_with fail
  go_loopw [0, 6] (fun b v wr => ∃ (k : Nat) (ba : Option Addr) (bn bc : Nat) (sa : Option Addr) (sn sc : Nat) (rs : List RepD), b = .slice ba bn bc ∧ v = .slice sa sn sc ∧ k ≤ l.length ∧ Bin w ba bn bc (l.drop k) ∧ OwnR w.heap.size wr (.slice sa sn sc) sn rs ∧ allR enh rs (l.drop k) = allR enh [] l ∧ Mod [] w wr ∧ rs.length ≤ k) (fun b _ _ => (match b with | .slice _ m _ => m | _ => 0))
  case atStart => exact ⟨0, a, n, cap, none, 0, 0, [], rfl, rfl, Nat.zero_le _, HB.out, OwnR.nil _ _, rfl, Mod.refl _ _, Nat.le_refl _⟩
  case round =>
    obtain ⟨k, ba, bn, bc, sa, sn, sc, rs, rfl, rfl, hk, hbin, hown, hall, hmod, hrs⟩ := hrel
    have HBin := Lib.hid hbin
    have HOw := Lib.hid hown
    have HA := Lib.hid hall
    have HM := Lib.hid hmod
    have HRs := Lib.hid hrs
    have HK := Lib.hid hk
    have hbl := hbin.len
    rw [List.length_drop] at hbl
    clear hbin hown hall hmod hrs
    by_cases h0 : bn = 0
    · have h0' : ¬ ((0 : Int) < (bn : Int)) := by omega
      have HE0 := Lib.hid (show allR enh [] l = (rs, 0) by
        rw [← HA.out, show l.drop k = [] from List.eq_nil_of_length_eq_zero (by rw [List.length_drop]; omega), allR_nil])
      clear h0 hbl
      go_wp2_with fail
      go_ret2
      unfold AllP
      rw [HE0.out]
      exact ⟨sa, sn, sc, rfl, HOw.out, HM.out⟩
    · have h0' : (0 : Int) < (bn : Int) := by omega
      have hne : l.drop k ≠ [] := by
        intro h
        have := congrArg List.length h
        rw [List.length_drop] at this
        simp at this
        omega
      have HNe := Lib.hid hne
      obtain ⟨D, hD⟩ : ∃ D, l.drop k = D := ⟨_, rfl⟩
      have HD := Lib.hid hD
      have hDl : D.length ≤ 100000 := by rw [← hD, List.length_drop]; omega
      have HRd := Lib.hid (read_any wr (HE.out _ HM.out) ba bn bc D (by rw [← hD]; exact HBin.out.quiet HM.out) enh hDl)
      unfold ReadP at HRd
      have HDl := Lib.hid (show D.length = bn by rw [← hD, List.length_drop]; omega)
      clear hne hD hDl h0 hbl
      have HRn := Lib.hid (readR_n enh D .zero 0)
      obtain ⟨x, hx⟩ : ∃ x, readR enh .zero D 0 = x := ⟨_, rfl⟩
      rw [hx] at HRd HRn
      have HX := Lib.hid hx
      clear hx
      by_cases he : x.2.2 = 0
      · rw [he] at HRd
        have e0 : ((0 : Int) != 0) = false := rfl
        have hxn := HRn.out
        have HEx := Lib.hid he
        have hxb : 2 ≤ x.2.1 ∧ x.2.1 ≤ bn := by
          rcases hxn with ⟨_, h2, h3⟩ | h | h
          · have := HDl.out; omega
          · rw [h] at he; cases he
          · rw [h] at he; cases he
        have HXb := Lib.hid hxb
        have HStep := Lib.hid (show allR enh (rs ++ [x.1]) (D.drop x.2.1) = allR enh [] l by
          have h := allR_ok (enh := enh) (acc := rs) (l := D) (by rw [← HD.out]; exact HNe.out) (by rw [HX.out]; exact he)
          rw [HX.out] at h
          rw [← HA.out, HD.out, h])
        obtain ⟨r, m, z⟩ := x
        simp only at HRd HXb HStep
        clear hxn he hxb
        obtain ⟨ba2, hsl, hbin2⟩ := bin_from (P := Tryd.prog) 27 5 Tryd.underlying27 size8 ba bn bc m HXb.out.2
        have HB2 := Lib.hid (hbin2 w D (by rw [← HD.out]; exact HBin.out))
        clear hbin2
        go_wp2_with fail
        refine HRd.out.mono ?_
        rintro e w2 ⟨v, rfl, hrep, hm2⟩
        obtain ⟨en, la, ln, lc, rfl, hen, hln, hTx⟩ := hrep
        have hq := heap_alloc_new w2 (.cells (repC r.code en la ln lc) 24)
        have hm3 : Mod [] w2 (w2.alloc (.cells (repC r.code en la ln lc) 24)) := (Mod.refl [] w2).alloc _
        have HW2 := Lib.hid hm2
        have HO3 := Lib.hid ((HOw.out.quiet hm2).quiet hm3)
        have HM3 := Lib.hid ((HM.out.trans hm2).trans hm3)
        have HTx := Lib.hid ((hTx.apart w.heap.size).quiet hm3)
        have HEn := Lib.hid hen
        have HLn := Lib.hid hln
        have HQ := Lib.hid hq
        have hsn : sn ≤ 1000000 := by have := HOw.out.len; have := HRs.out; have := HK.out; omega
        clear hm2 hen hln hTx hm3 HRd hq
        go_wp2_with fail
        generalize w2.alloc (.cells (repC r.code en la ln lc) 24) = w3 at *
        have HOw2 := Lib.hid (HOw.out.quiet HW2.out)
        generalize hqe : w2.heap.size = q at *
        have HQe := Lib.hid hqe
        clear hqe
        have k0 := blk_cell HQ.out 0
        have k1 := blk_cell HQ.out 1
        have k2 := blk_cell HQ.out 2
        have HKeep := Lib.hid (fun (F : List Nat) (W : World) (hm : Mod F w3 W) (hF : q ∉ F) => (⟨hm.cell k0 hF, hm.cell k1 hF, hm.cell k2 hF⟩ : W.cell? ⟨q, 0, none⟩ = some (.int .i64 r.code) ∧ W.cell? ⟨q, 1, none⟩ = some (.string en) ∧ W.cell? ⟨q, 2, none⟩ = some (.slice la ln lc)))
        have HOb := Lib.hid (show ∀ x, (Value.slice sa sn sc).ownBlock = some x → w.heap.size ≤ x ∧ x ≠ q by
          intro x hx
          obtain ⟨cs, h1, -⟩ := HOw2.out
          have h2 := owns_lt h1 hx
          exact ⟨h2.1, by have := HQe.out; omega⟩)
        refine wp_region_held_drew (S := (fun W => W.cell? ⟨q, 0, none⟩ = some (.int .i64 r.code) ∧ W.cell? ⟨q, 1, none⟩ = some (.string en) ∧ W.cell? ⟨q, 2, none⟩ = some (.slice la ln lc))) (by kernel_rfl) (⟨k0, k1, k2⟩) (fun hHeld => ?_)
        refine wpAnyH_take (i := 0) (oi := ?_) (v := ?_) ?_ (by kernel_rfl) (by kernel_rfl) (by kernel_rfl) ?_ (Or.inl ⟨?_, ?_⟩) hHeld ?_
        rotate_left 2
        · simp only [List.getElem?_toArray, List.getElem?_cons_succ, List.getElem?_cons_zero]; rfl
        · exact fun _ _ _ h => h
        · rfl
        · intro w hSw; (try dsimp only at hSw); go_simp; try (with_reducible rfl)
        try simp only [Act.put, List.setIfInBounds_toArray, List.set_cons_zero, List.set_cons_succ]
        refine wpAnyH_take (i := 1) (oi := ?_) (v := ?_) ?_ (by kernel_rfl) (by kernel_rfl) (by kernel_rfl) ?_ (Or.inl ⟨?_, ?_⟩) hHeld ?_
        rotate_left 2
        · simp only [List.getElem?_toArray, List.getElem?_cons_succ, List.getElem?_cons_zero]; rfl
        · exact fun _ _ _ h => h
        · rfl
        · intro w hSw; (try dsimp only at hSw); go_simp; try (with_reducible rfl)
        try simp only [Act.put, List.setIfInBounds_toArray, List.set_cons_zero, List.set_cons_succ]
        refine wpAnyH_take (i := 4) (oi := ?_) (v := ?_) ?_ (by kernel_rfl) (by kernel_rfl) (by kernel_rfl) ?_ (Or.inl ⟨?_, ?_⟩) hHeld ?_
        rotate_left 2
        · simp only [List.getElem?_toArray, List.getElem?_cons_succ, List.getElem?_cons_zero]; rfl
        · exact fun _ _ _ h => h
        · rfl
        · intro w hSw; (try dsimp only at hSw); go_simp; try (with_reducible rfl)
        try simp only [Act.put, List.setIfInBounds_toArray, List.set_cons_zero, List.set_cons_succ]
        refine wpAnyH_take (i := 5) (oi := ?_) (v := ?_) ?_ (by kernel_rfl) (by kernel_rfl) (by kernel_rfl) ?_ (Or.inl ⟨?_, ?_⟩) hHeld ?_
        rotate_left 2
        · simp only [List.getElem?_toArray, List.getElem?_cons_succ, List.getElem?_cons_zero]; rfl
        · exact fun _ _ _ h => h
        · rfl
        · intro w hSw; (try dsimp only at hSw); go_simp; try (with_reducible rfl)
        try simp only [Act.put, List.setIfInBounds_toArray, List.set_cons_zero, List.set_cons_succ]
        refine wpAnyH_take (i := 6) (oi := ?_) (v := ?_) ?_ (by kernel_rfl) (by kernel_rfl) (by kernel_rfl) ?_ (Or.inl ⟨?_, ?_⟩) hHeld ?_
        rotate_left 2
        · simp only [List.getElem?_toArray, List.getElem?_cons_succ, List.getElem?_cons_zero]; rfl
        · exact fun _ _ _ h => h
        · rfl
        · intro w hSw; (try dsimp only at hSw); go_simp; try (with_reducible rfl)
        try simp only [Act.put, List.setIfInBounds_toArray, List.set_cons_zero, List.set_cons_succ]
        refine wpAnyH_ready (rs := [2]) (by kernel_rfl) (by simp) ?_
        refine AllReadyH.cons (o := ?_) ?_ (fun K hK => ?_) ?_
        rotate_left
        · simp only [List.getElem?_toArray, List.getElem?_cons_succ, List.getElem?_cons_zero]; rfl
        · go_simp
          refine hK.out _ _ (HKeep.out [] _ (((Mod.refl [] w3).drew).alloc _) (by simp)) ?_
          clear hK K hHeld
          intro hHeld
          try simp only [Act.put, List.setIfInBounds_toArray, List.set_cons_zero, List.set_cons_succ]
          refine wpAnyH_ready (rs := [3]) (by kernel_rfl) (by simp) ?_
          refine AllReadyH.cons (o := ?_) ?_ (fun K hK => ?_) ?_
          rotate_left
          · simp only [List.getElem?_toArray, List.getElem?_cons_succ, List.getElem?_cons_zero]; rfl
          · refine step_appR _ rfl _ _ 38 38 rfl Tryd.underlying38 Tryd.underlying38 w.heap.size w3.drew _ sn rs (HO3.out.quiet (Mod.refl [] w3).drew) HM3.out.size rfl r en la ln lc HEn.out HLn.out (HTx.out.quiet (Mod.refl [] w3).drew) rfl _ rfl rfl hsn ?_
            intro a5 n5 c5 w5 ho5 hm5
            have HO5 := Lib.hid ho5
            have HM5 := Lib.hid (HM3.out.trans' ((Mod.refl [] w3).drew.mono (by simp) |>.trans hm5) (by intro x hx; exact Or.inr (HOb.out x (by simpa using hx)).1))
            have HK5 := Lib.hid (HKeep.out _ w5 ((Mod.refl [] w3).drew.mono (by simp) |>.trans hm5) (by intro hx; exact (HOb.out q (by simpa using hx)).2 rfl))
            clear ho5 hm5
            refine hK.out _ _ (HK5.out) ?_
            clear hK K hHeld
            intro hHeld
            try simp only [Act.put, List.setIfInBounds_toArray, List.set_cons_zero, List.set_cons_succ]
            refine wpAnyH_take (i := 7) (oi := ?_) (v := ?_) ?_ (by kernel_rfl) (by kernel_rfl) (by kernel_rfl) ?_ (Or.inl ⟨?_, ?_⟩) hHeld ?_
            rotate_left 2
            · simp only [List.getElem?_toArray, List.getElem?_cons_succ, List.getElem?_cons_zero]; rfl
            · exact fun _ _ _ h => h
            · rfl
            · intro w hSw; (try dsimp only at hSw); go_simp; try (with_reducible rfl)
            try simp only [Act.put, List.setIfInBounds_toArray, List.set_cons_zero, List.set_cons_succ]
            refine wpAnyH_take (i := 8) (oi := ?_) (v := ?_) ?_ (by kernel_rfl) (by kernel_rfl) (by kernel_rfl) ?_ (Or.inl ⟨?_, ?_⟩) hHeld ?_
            rotate_left 2
            · simp only [List.getElem?_toArray, List.getElem?_cons_succ, List.getElem?_cons_zero]; rfl
            · exact fun _ _ _ h => h
            · rfl
            · intro w hSw; (try dsimp only at hSw); go_simp; try (with_reducible rfl)
            try simp only [Act.put, List.setIfInBounds_toArray, List.set_cons_zero, List.set_cons_succ]
            refine wpAnyH_done (by kernel_rfl) ?_ _
            clear hHeld
            go_wp2_with fail
            exact ⟨⟨k + m, ba2, bn - m, bc - m, a5, n5, c5, _, rfl, rfl, by have := HXb.out; have := HDl.out; have := HD.out; have := congrArg List.length HD.out; rw [List.length_drop] at this; omega, by rw [← List.drop_drop, HD.out]; exact HB2.out, HO5.out, by rw [← List.drop_drop, HD.out]; exact HStep.out, HM5.out, by have := HRs.out; have := HXb.out; rw [List.length_append]; simp; omega⟩, by have := HXb.out; simp only; omega⟩
          exact AllReadyH.nil
        exact AllReadyH.nil
      · have e0 : (x.2.2 != 0) = true := by rw [bne_iff_ne]; exact he
        have HEx := Lib.hid (show allR enh [] l = ([], x.2.2) by
          have h := allR_no (enh := enh) (acc := rs) (l := D) (by rw [← HD.out]; exact HNe.out) (by rw [HX.out]; exact he)
          rw [HX.out] at h
          rw [← HA.out, HD.out, h])
        obtain ⟨r, m, z⟩ := x
        simp only at HRd e0
        clear he
        go_wp2_with fail
        refine HRd.out.mono ?_
        rintro e w2 ⟨v, rfl, hrep, hm2⟩
        obtain ⟨en, la, ln, lc, rfl, -, -, -⟩ := hrep
        have HM2 := Lib.hid (HM.out.trans hm2)
        go_wp2_with fail
        go_ret2
        unfold AllP
        rw [HEx.out]
        exact ⟨none, 0, 0, rfl, OwnR.nil _ _, HM2.out.alloc _⟩
end Go.Proofs.YtdedolbaldfmbaaDoor
