/- ReplyBack: replies one behind the other are read as they were. -/
import Derived.Test.YtdedolbaldfmbaaDoorRpReadsLaw
import Derived.Test.YtdedolbaldfmbaaDoorRpZ
namespace Go.Proofs.YtdedolbaldfmbaaDoor
open Go.Shelf Go.ChangeShapes Go.WideShapes Go.ChangeAt Go.RowKit
set_option linter.unusedVariables false
set_option linter.unusedSimpArgs false

theorem numP_len {l : List Int} {v : Nat} (h : numP l = some v) : l.length ≤ 3 := by
  unfold numP at h
  split at h
  · rename_i hk
    simp only [okN, Bool.and_eq_true, decide_eq_true_eq] at hk
    exact hk.1.1.2
  · cases h
theorem enc_len {e : List Int} {v : Nat × Nat × Nat} (h : encL e = some v) : e.length ≤ 11 := by
  unfold encL at h
  split at h
  · rename_i hb
    rw [Bool.and_eq_true] at hb
    split at h
    · rename_i a b c ha hb' hc
      obtain ⟨e1, _⟩ := cut_parts hb.1
      obtain ⟨e2, _⟩ := cut_parts hb.2
      have l1 := numP_len ha
      have l2 := numP_len hb'
      have l3 := numP_len hc
      rw [e1, e2]
      simp only [List.length_append, List.length_cons]
      omega
    · cases h
  · cases h
theorem sentL_len {m : Nat} {e : List Int} (he : e.length ≤ 11) : ∀ (L : List (List Int)), L.all plainB = true → (sentL m e L).length ≤ L.length * 418
  | [], _ => by simp [sentL]
  | t :: ts, h => by
    simp only [List.all_cons, Bool.and_eq_true] at h
    have ih := sentL_len (m := m) he ts h.2
    have ht := (plain_bytes h.1).2
    have h1 : (enhL e).length ≤ 12 := by unfold enhL; split <;> simp; omega
    rw [sentL, List.length_append, List.length_cons]
    have h2 : (lineL m e (!ts.isEmpty) t).length ≤ 418 := by
      unfold lineL; simp only [List.length_append, List.length_cons, List.length_nil, dig3_len]; omega
    omega
theorem sentR_len {r : RepD} (h : goodB r = true) (hl : r.lines.length ≤ 20) : (sentR r).length ≤ 8360 := by
  obtain ⟨h1, h2, h3, h4⟩ := good_parts h
  have he : r.enh.length ≤ 11 := by
    rcases h2 with h2 | h2
    · rw [h2]; simp
    · obtain ⟨v, hv⟩ := fit_enc h2; exact enc_len hv
  have := sentL_len (m := r.code.toNat) he r.lines h3
  unfold sentR
  omega
theorem Own8.mod {e : TypeId} {B : Nat} {W0 w w' : World} {F : List Nat} {v : Value} {n : Nat} {l : List Int} (h : Own8 e B W0 w v n l) (hm : Mod F w w') (hv : ∀ k, v.ownBlock = some k → k ∉ F) (hF : ∀ k ∈ F, B ≤ k) : Own8 e B W0 w' v n l :=
  ⟨hm.owns h.own hv, h.below.trans (hm.toBelow h.size hF), h.byt, Nat.le_trans h.size hm.size⟩
theorem wpList_own8m {P : Program} (w : World) {ops : Array Oper} {rest : List Oper} {o : Oper} {a : Act} {Q : Exit → Act → World → Prop} (hgd : o.guard = none) (s x : Operand) (t tx : TypeId)
    (ho : o.op = .call { callee := .builtin .append, args := #[s, x], argTypes := #[t, tx] })
    (e : TypeId) (ht : P.underlying t = some (.slice e)) (hi : (P.info? e).map (fun i => (i.zero, i.size, i.bytes)) = some (some (.int .u8 0), 1, 1))
    (B : Nat) (W0 : World) (v : Value) (n : Nat) (l : List Int) (HO : Own8 e B W0 w v n l) (hs : a.eval s = v)
    (xv : Value) (m : Nat) (r : List Int) (hx : a.eval x = xv) (hsrc : Src P 1 tx xv m (u8s r) w) (hr : Bytes r) (h63 : l.length + r.length ≤ 140737488355328)
    (h : ∀ a' n' c' w', Own8 e B W0 w' (.slice a' n' c') n' (l ++ r) → Mod v.ownBlock.toList w w' → wpList P ops Q rest (a.put o.dst (.slice a' n' c')) w') : wpList P ops Q (o :: rest) a w := by
  obtain ⟨i, hi1, hi2, hi3, hi4⟩ := info_parts hi
  have hl := HO.len
  have hm' : r.length = m := by simpa using hsrc.newsLen
  subst hm'
  refine wpList_append_src w hgd s x t tx ho B e i _ 1 1 ht hi1 hi2 hi3 hi4 rfl v _ _ hs HO.own xv _ _ hx hsrc (by simp only [maxLen]; omega) (by omega) HO.size ?_
  intro v' w' h1 h2 h3
  obtain ⟨a', c', rfl, -, -⟩ := owns_shape h1
  refine h a' _ c' w' ⟨by simpa using h1, HO.below.trans ((Mod.ofGrown h2).toBelow HO.size ?_), HO.byt.append hr, Nat.le_trans HO.size h2.size⟩ (Mod.ofGrown h2)
  intro x hx
  exact (owns_lt HO.own (by simpa using hx)).1
theorem few_parts {e : ByteArray} {L : List (List Int)} (h : fewB e L = true) : L.length ≤ 20 ∧ e.size ≤ 100 ∧ ∀ l ∈ L, l.length ≤ 500 := by
  unfold fewB at h
  simp only [Bool.and_eq_true, decide_eq_true_eq, List.all_eq_true] at h
  exact ⟨h.1.1, h.1.2, fun l hl => by have := h.2 l hl; unfold shortB at this; simpa using this⟩
/-- the bytes so far, the replies so far -/
structure BkS (enh : Bool) (w1 wr : World) (sa : Option Addr) (sn sc : Nat) (ia : Option Addr) (inn ic : Nat) (S : List Int) (ins : List RepD) : Prop where
  all : Own8 5 w1.heap.size w1 wr (.slice sa sn sc) sn S
  in_ : OwnR w1.heap.size wr (.slice ia inn ic) inn ins
  eq : S = ins.flatMap sentR
  good : ∀ r ∈ ins, goodB r = true ∧ decide (r.enh ≠ []) = enh
  few : ∀ r ∈ ins, r.lines.length ≤ 20
  len : S.length ≤ ins.length * 8360
theorem BkS.quiet {enh : Bool} {w1 wr w' : World} {sa : Option Addr} {sn sc : Nat} {ia : Option Addr} {inn ic : Nat} {S : List Int} {ins : List RepD} (h : BkS enh w1 wr sa sn sc ia inn ic S ins) (hm : Mod [] wr w') : BkS enh w1 w' sa sn sc ia inn ic S ins :=
  ⟨h.all.quiet hm, h.in_.quiet hm, h.eq, h.good, h.few, h.len⟩
set_option maxRecDepth 100000 in
set_option maxHeartbeats 8000000 in
theorem rback_any (w : World) (a : Option Addr) (n cap : Nat) (rs : List RepD) (h : InR w a rs) (hn : n = rs.length) (hl : rs.length ≤ 9223372036854775807) (enh : Bool) (hE : Env w) :
    Calls Tryd.prog 5 #[.slice a n cap, .bool enh] w (AwP w) := by
  have HI := Lib.hid h
  have HE := Lib.hid (fun (W : World) (hm : Mod [] w W) => hE.quiet hm)
  have HAw := Lib.hid (awake_any w hE)
  have HNl := Lib.hid hn
  have hnb : n ≤ 9223372036854775807 := by omega
  clear h hE hn hl
  unfold AwP at *
  go_enter Tryd.func5, Tryd.ntmps5
  go_wp2_with fail
  refine HAw.out.mono ?_
  rintro e w1 ⟨rfl, hb⟩
  have HM1 := Lib.hid (Mod.ofBelow hb)
  clear hb HAw
  by_cases hl : 10 < n
  · have hl' : (10 : Int) < (n : Int) := by omega
    go_wp2_with fail
    go_ret
    exact ⟨rfl, HM1.out.toBelow (Nat.le_refl _) (by simp)⟩
  have hl' : (n : Int) ≤ 10 := by omega
  have hn10 : n ≤ 10 := by omega
  clear hl
  go_wp2_with fail
  go_loopw [5, 6, 7] (fun v u t wr => ∃ (i : Nat) (sa : Option Addr) (sn sc : Nat) (ia : Option Addr) (inn ic : Nat) (S : List Int) (ins : List RepD), v = .slice sa sn sc ∧ u = .slice ia inn ic ∧ t = .int .i64 i ∧ i ≤ n ∧ ins.length ≤ i ∧ BkS enh w1 wr sa sn sc ia inn ic S ins) (fun _ _ t _ => n - (intOf t).toNat)
  case atStart => exact ⟨0, none, 0, 0, none, 0, 0, [], [], rfl, rfl, rfl, Nat.zero_le _, Nat.le_refl _, ⟨Own8.nil _ _, OwnR.nil _ _, rfl, (by intro r hr; cases hr), (by intro r hr; cases hr), by simp⟩⟩
  case round =>
    obtain ⟨i, sa, sn, sc, ia, inn, ic, S, ins, rfl, rfl, rfl, hi, hil, hS⟩ := hrel
    have HS := Lib.hid hS
    have HIl := Lib.hid hil
    have hmr : Mod [] w wr := HM1.out.trans (Mod.ofBelow hS.all.below)
    have HMr := Lib.hid hmr
    clear hS hil hmr
    by_cases hlt : i < n
    · have hiI : (i : Int) < (n : Int) := by omega
      obtain ⟨b, o, ha, hcs⟩ : ∃ b o, a = some ⟨b, o, none⟩ ∧ ∀ i, i < rs.length → ∃ e la lc, w.cell? ⟨b, o + 3 * i, none⟩ = some (.int .i64 (rs.getD i .zero).code) ∧ w.cell? ⟨b, o + 3 * i + 1, none⟩ = some (.string e) ∧ w.cell? ⟨b, o + 3 * i + 2, none⟩ = some (.slice la (rs.getD i .zero).lines.length lc) ∧ nums e = (rs.getD i .zero).enh ∧ CellsS w la (rs.getD i .zero).lines ∧ (rs.getD i .zero).lines.length ≤ 9223372036854775807 := by
        rcases HI.out with h0 | h0
        · exfalso; have := HNl.out; rw [h0] at this; simp at this; omega
        · exact h0
      have hci := hcs i (by have := HNl.out; omega)
      obtain ⟨r, hr⟩ : ∃ r, rs.getD i .zero = r := ⟨_, rfl⟩
      rw [hr] at hci
      obtain ⟨rl, hrl⟩ : ∃ rl, r.lines.length = rl := ⟨_, rfl⟩
      rw [hrl] at hci
      obtain ⟨e, la, lc, c0, c1, c2, hen, hct, hcl⟩ := hci
      have hix := ixa (P := Tryd.prog) 38 24 Tryd.underlying38 3 sizeR3 a b o n cap i ha hlt
      rw [Nat.mul_comm] at hix
      have hblt := World.block_lt_of_cell? w _ c0
      have HCs := Lib.hid (fun (W : World) (hm : Mod [] w W) => (⟨hm.cell c0 (by simp), hm.cell c1 (by simp), hm.cell c2 (by simp), hct.quiet hm⟩ : W.cell? ⟨b, o + 3 * i, none⟩ = some (.int .i64 r.code) ∧ W.cell? ⟨b, o + 3 * i + 1, none⟩ = some (.string e) ∧ W.cell? ⟨b, o + 3 * i + 2, none⟩ = some (.slice la rl lc) ∧ CellsS W la r.lines))
      have HEn := Lib.hid hen
      have HRl := Lib.hid hrl
      have HTa := Lib.hid (show ∀ W, Mod [] w W → TxA w1.heap.size W la r.lines from fun W hm => ⟨hct.quiet hm, by
        by_cases h0 : r.lines = []
        · exact .inl h0
        · obtain ⟨b2, o2, hla, hb2⟩ := hct.addr (List.length_pos_iff.2 h0)
          exact .inr ⟨_, hla, Or.inl (by have := HM1.out.size; show b2 < _; omega)⟩⟩)
      have HRe := Lib.hid (show (⟨r.code, nums e, r.lines⟩ : RepD) = r by rw [hen])
      obtain ⟨k0, k1, k2, -⟩ := HCs.out wr HMr.out
      have HFw := Lib.hid (few_any wr r.code e la rl lc r.lines (HCs.out wr HMr.out).2.2.2 hrl.symm (by omega))
      unfold BoolP at HFw
      clear hcs ha hr c0 c1 c2 hen hct hrl hblt
      cases hfw : fewB e r.lines
      · rw [hfw] at HFw
        clear hfw
        go_wp2_with (go_at_call 7; refine HFw.out.mono ?_; rintro e w2 ⟨rfl, hm2⟩; have HM2 := Lib.hid (HMr.out.trans hm2); clear hm2)
        go_ret
        exact ⟨rfl, HM2.out.toBelow (Nat.le_refl _) (by simp)⟩
      · rw [hfw] at HFw
        obtain ⟨f1, f2, f3⟩ := few_parts hfw
        have HF1 := Lib.hid f1
        clear hfw
        go_wp2_with (go_at_call 7; refine HFw.out.mono ?_; rintro e9 w2 ⟨rfl, hm2⟩; refine Hid.out ?_)
        have HM2 := Lib.hid (HMr.out.trans hm2)
        have HS2 := Lib.hid (HS.out.quiet hm2)
        clear k0 k1 k2
        obtain ⟨k0, k1, k2, -⟩ := HCs.out w2 HM2.out
        have HBy := Lib.hid (bytes_any w2 (HE.out _ HM2.out) r.code e la rl lc r.lines (HCs.out w2 HM2.out).2.2.2 HRl.out.symm (by omega) (fun l hl => by have := f3 l hl; omega) (by omega))
        unfold SentB at HBy
        rw [HRe.out] at HBy
        have HGd := Lib.hid (fun (W : World) (hm : Mod [] w W) => good_any W (HE.out _ hm) r.code e la rl lc r.lines (HCs.out W hm).2.2.2 HRl.out.symm (by omega) (fun l hl => by have := f3 l hl; omega) (by omega))
        unfold BoolP at HGd
        rw [HRe.out] at HGd
        clear hm2 HFw f1 f2 f3
        cases hg : goodB r
        · rw [hg] at HGd
          rw [hg] at HBy
          simp only [Bool.false_eq_true, if_false] at HBy
          clear hg
          refine Lib.hid ?_
          go_wp2_with (go_at_call 8; refine HBy.out.mono ?_; rintro e9 w3 ⟨ba, bn, bc, rfl, hb3, hm3⟩; refine Hid.out ?_)
          have HM3 := Lib.hid (HM2.out.trans hm3)
          have HS3 := Lib.hid (HS2.out.quiet hm3)
          have HB3 := Lib.hid hb3
          clear k0 k1 k2 hm3 hb3 HBy
          obtain ⟨k0, k1, k2, -⟩ := HCs.out w3 HM3.out
          refine Lib.hid ?_
          go_wp2_with (go_at_call 13; refine (HGd.out _ HM3.out).mono ?_; rintro e9 w4 ⟨rfl, hm4⟩; have HS4 := Lib.hid (HS3.out.quiet hm4); clear hm4)
          go_roundw
          case rel => exact ⟨i + 1, sa, sn, sc, ia, inn, ic, S, ins, rfl, rfl, by go_num, by omega, by have := HIl.out; omega, HS4.out⟩
          case measure => simp [intOf]; omega
        · rw [hg] at HGd
          have hsq : sentQ r = sentR r := by unfold sentQ; rw [hg]; rfl
          have HG := Lib.hid hg
          rw [hg] at HBy
          simp only [if_true] at HBy
          have HSq := Lib.hid hsq
          clear hg hsq
          refine Lib.hid ?_
          go_wp2_with (go_at_call 8; refine HBy.out.mono ?_; rintro e9 w3 ⟨ba, bn, bc, rfl, hb3, hm3⟩; refine Hid.out ?_)
          have HM3 := Lib.hid (HM2.out.trans hm3)
          have HS3 := Lib.hid (HS2.out.quiet hm3)
          have HB3 := Lib.hid hb3
          clear k0 k1 k2 hm3 hb3 HBy
          obtain ⟨k0, k1, k2, -⟩ := HCs.out w3 HM3.out
          refine Lib.hid ?_
          go_wp2_with (go_at_call 13; refine (HGd.out _ HM3.out).mono ?_; rintro e9 w4 ⟨rfl, hm4⟩; refine Hid.out ?_)
          have HM4 := Lib.hid (HM3.out.trans hm4)
          have HS4 := Lib.hid (HS3.out.quiet hm4)
          have HB4 := Lib.hid (HB3.out.quiet hm4)
          clear k0 k1 k2 hm4
          obtain ⟨k0, k1, k2, -⟩ := HCs.out w4 HM4.out
          have hne : (e.toList == ([] : List UInt8)) = decide (r.enh = []) := by
            rw [← HEn.out, Bool.eq_iff_iff, beq_iff_eq, decide_eq_true_iff, toList_nil, nums_nil]
          by_cases hem : r.enh = []
          · have q1 : (e.toList == ([] : List UInt8)) = true := by rw [hne]; simpa using hem
            have q2 : e.toList = [] := by rw [beq_iff_eq] at q1; exact q1
            have HEq := Lib.hid (show decide (r.enh ≠ []) = false by simp [hem])
            clear hem hne
            cases enh
            · have hb4 := HB4.out
              rw [HSq.out] at hb4
              have hsl := sentR_len HG.out (by rw [HRl.out] at *; exact HF1.out)
              have HB5 := Lib.hid hb4
              have HSl := Lib.hid hsl
              have hSb : S.length ≤ 90000 := by have := HS4.out.len; have := HIl.out; omega
              clear hb4 hsl
              refine Lib.hid ?_
              go_wp2_with (at_builtin; refine wpList_own8m _ rfl _ _ 27 27 rfl 5 Tryd.underlying27 info8 w1.heap.size w1 _ _ _ HS4.out.all rfl _ _ (sentR r) rfl (Src.of8 HB5.out.cells Tryd.underlying27 _ _ HB5.out.len) HB5.out.cells.1 (by have := HSl.out; omega) ?_)
              intro a5 n5 c5 w5 ho5 hm5
              have hub : ∀ k, (Value.slice sa sn sc).ownBlock = some k → w1.heap.size ≤ k ∧ IsT 5 w4 k := fun k hk => ⟨(owns_lt HS4.out.all.own hk).1, owns_isT HS4.out.all.own hk⟩
              have HI5 := Lib.hid (HS4.out.in_.mod hm5 (by
                  intro k hk hk2
                  obtain ⟨cs, h1, -⟩ := HS4.out.in_
                  exact (owns_isT h1 hk).ne (by decide) (hub k (by simpa using hk2)).2) (by
                  intro k hk
                  have := hub k (by simpa using hk)
                  exact ⟨this.1, this.2.ne (by decide)⟩))
              have HO5 := Lib.hid ho5
              have hm5' : Mod [] w w5 := HM4.out.trans' hm5 (by intro x hx; have := (hub x (by simpa using hx)).1; have := HM1.out.size; exact Or.inr (by omega))
              have HM5 := Lib.hid hm5'
              clear k0 k1 k2 ho5 hm5 hub hm5'
              obtain ⟨k0, k1, k2, -⟩ := HCs.out w5 HM5.out
              have hin5 : inn ≤ 1000000 := by have := HI5.out.len; have := HIl.out; omega
              go_wp2_with (at_builtin; refine wpList_appR _ rfl _ _ 38 38 rfl Tryd.underlying38 Tryd.underlying38 w1.heap.size w5 _ inn ins HI5.out HO5.out.size rfl r e la rl lc HEn.out HRl.out.symm (HTa.out w5 HM5.out) rfl _ rfl rfl hin5 ?_)
              intro a6 n6 c6 w6 ho6 hm6
              have HO6 := Lib.hid (HO5.out.mod hm6 (by
                  intro k hk hk2
                  obtain ⟨cs, h1, -⟩ := HI5.out
                  exact (owns_isT HO5.out.own hk).ne (by decide) (owns_isT h1 (by simpa using hk2))) (by
                  intro k hk
                  obtain ⟨cs, h1, -⟩ := HI5.out
                  exact (owns_lt h1 (by simpa using hk)).1))
              have HN6 := Lib.hid ho6
              clear k0 k1 k2 ho6 hm6
              go_wp2_with fail
              go_roundw
              case rel => exact ⟨i + 1, a5, n5, c5, a6, n6, c6, S ++ sentR r, ins ++ [r], rfl, rfl, by go_num, by omega, by have := HIl.out; rw [List.length_append]; simp; omega, ⟨HO6.out, HN6.out, by rw [HS4.out.eq]; simp, by
                intro x hx
                rcases List.mem_append.1 hx with h | h
                · exact HS4.out.good x h
                · simp at h; subst h; exact ⟨HG.out, HEq.out⟩, by
                intro x hx
                rcases List.mem_append.1 hx with h | h
                · exact HS4.out.few x h
                · simp at h; subst h; rw [HRl.out] at *; exact HF1.out, by have := HS4.out.len; have := HSl.out; simp only [List.length_append, List.length_cons, List.length_nil]; omega⟩⟩
              case measure => simp [intOf]; omega
            · refine Lib.hid ?_
              go_wp2_with fail
              go_roundw
              case rel => exact ⟨i + 1, sa, sn, sc, ia, inn, ic, S, ins, rfl, rfl, by go_num, by omega, by have := HIl.out; omega, HS4.out⟩
              case measure => simp [intOf]; omega
          · have q1 : (e.toList == ([] : List UInt8)) = false := by rw [hne]; simpa using hem
            have q2 : e.toList ≠ [] := by rw [beq_eq_false_iff_ne] at q1; exact q1
            have HEq := Lib.hid (show decide (r.enh ≠ []) = true by simp [hem])
            clear hem hne
            cases enh
            · refine Lib.hid ?_
              go_wp2_with fail
              go_roundw
              case rel => exact ⟨i + 1, sa, sn, sc, ia, inn, ic, S, ins, rfl, rfl, by go_num, by omega, by have := HIl.out; omega, HS4.out⟩
              case measure => simp [intOf]; omega
            · have hb4 := HB4.out
              rw [HSq.out] at hb4
              have hsl := sentR_len HG.out (by rw [HRl.out] at *; exact HF1.out)
              have HB5 := Lib.hid hb4
              have HSl := Lib.hid hsl
              have hSb : S.length ≤ 90000 := by have := HS4.out.len; have := HIl.out; omega
              clear hb4 hsl
              refine Lib.hid ?_
              go_wp2_with (at_builtin; refine wpList_own8m _ rfl _ _ 27 27 rfl 5 Tryd.underlying27 info8 w1.heap.size w1 _ _ _ HS4.out.all rfl _ _ (sentR r) rfl (Src.of8 HB5.out.cells Tryd.underlying27 _ _ HB5.out.len) HB5.out.cells.1 (by have := HSl.out; omega) ?_)
              intro a5 n5 c5 w5 ho5 hm5
              have hub : ∀ k, (Value.slice sa sn sc).ownBlock = some k → w1.heap.size ≤ k ∧ IsT 5 w4 k := fun k hk => ⟨(owns_lt HS4.out.all.own hk).1, owns_isT HS4.out.all.own hk⟩
              have HI5 := Lib.hid (HS4.out.in_.mod hm5 (by
                  intro k hk hk2
                  obtain ⟨cs, h1, -⟩ := HS4.out.in_
                  exact (owns_isT h1 hk).ne (by decide) (hub k (by simpa using hk2)).2) (by
                  intro k hk
                  have := hub k (by simpa using hk)
                  exact ⟨this.1, this.2.ne (by decide)⟩))
              have HO5 := Lib.hid ho5
              have hm5' : Mod [] w w5 := HM4.out.trans' hm5 (by intro x hx; have := (hub x (by simpa using hx)).1; have := HM1.out.size; exact Or.inr (by omega))
              have HM5 := Lib.hid hm5'
              clear k0 k1 k2 ho5 hm5 hub hm5'
              obtain ⟨k0, k1, k2, -⟩ := HCs.out w5 HM5.out
              have hin5 : inn ≤ 1000000 := by have := HI5.out.len; have := HIl.out; omega
              go_wp2_with (at_builtin; refine wpList_appR _ rfl _ _ 38 38 rfl Tryd.underlying38 Tryd.underlying38 w1.heap.size w5 _ inn ins HI5.out HO5.out.size rfl r e la rl lc HEn.out HRl.out.symm (HTa.out w5 HM5.out) rfl _ rfl rfl hin5 ?_)
              intro a6 n6 c6 w6 ho6 hm6
              have HO6 := Lib.hid (HO5.out.mod hm6 (by
                  intro k hk hk2
                  obtain ⟨cs, h1, -⟩ := HI5.out
                  exact (owns_isT HO5.out.own hk).ne (by decide) (owns_isT h1 (by simpa using hk2))) (by
                  intro k hk
                  obtain ⟨cs, h1, -⟩ := HI5.out
                  exact (owns_lt h1 (by simpa using hk)).1))
              have HN6 := Lib.hid ho6
              clear k0 k1 k2 ho6 hm6
              go_wp2_with fail
              go_roundw
              case rel => exact ⟨i + 1, a5, n5, c5, a6, n6, c6, S ++ sentR r, ins ++ [r], rfl, rfl, by go_num, by omega, by have := HIl.out; rw [List.length_append]; simp; omega, ⟨HO6.out, HN6.out, by rw [HS4.out.eq]; simp, by
                intro x hx
                rcases List.mem_append.1 hx with h | h
                · exact HS4.out.good x h
                · simp at h; subst h; exact ⟨HG.out, HEq.out⟩, by
                intro x hx
                rcases List.mem_append.1 hx with h | h
                · exact HS4.out.few x h
                · simp at h; subst h; rw [HRl.out] at *; exact HF1.out, by have := HS4.out.len; have := HSl.out; simp only [List.length_append, List.length_cons, List.length_nil]; omega⟩⟩
              case measure => simp [intOf]; omega
    · have hge : ¬ (i : Int) < (n : Int) := by omega
      have hlen := HS.out.len
      have hin : ins.length ≤ 10 := by have := HIl.out; omega
      have HAl := Lib.hid (all_any wr (HE.out _ HMr.out) sa sn sc S HS.out.all.bin enh (by omega))
      have hall := all_sent enh ins [] HS.out.good
      rw [← HS.out.eq, List.nil_append] at hall
      unfold AllP at HAl
      rw [hall] at HAl
      simp only at HAl
      clear hall hlen hlt
      go_wp2_with (go_at_call 19; refine HAl.out.mono ?_; rintro e7 w7 ⟨ga, gn, gc, rfl, ho7, hm7⟩; refine Hid.out ?_)
      have HM7 := Lib.hid (HMr.out.trans hm7)
      have HOa := Lib.hid ho7
      have HOb := Lib.hid (HS.out.in_.quiet hm7)
      have hgr : ((gn : Int) != (inn : Int)) = false := by
        rw [bne_eq_false_iff_eq]; have := ho7.len; have := HS.out.in_.len; omega
      have hlenins : ∀ i, (ins.getD i .zero).lines.length ≤ 9223372036854775807 := fun i => by have := getD_lines HS.out.few i; omega
      have HRsc := Lib.hid (show ins.length ≤ 1000000 by omega)
      clear ho7 hm7 HAl
      refine Lib.hid ?_
      go_wp2_with fail
      go_loopw [12] (fun v wr => ∃ i : Nat, v = .int .i64 i ∧ i ≤ ins.length ∧ Mod [] w7 wr) (fun v _ => ins.length - (intOf v).toNat)
      case atStart => exact ⟨0, rfl, Nat.zero_le _, Mod.refl _ _⟩
      case round =>
        obtain ⟨i, rfl, hi, hmod⟩ := hrel
        have HMr := Lib.hid hmod
        clear hmod
        by_cases hlt : i < ins.length
        · have hiI : (i : Int) < (gn : Int) := by have := HOa.out.len; omega
          have hiB : (i : Int) ≤ 1000000 := by have := HRsc.out; omega
          have hiI2 : (i : Int) < (inn : Int) := by have := HOb.out.len; omega
          have hoA := HOa.out.quiet HMr.out
          have hoB := HOb.out.quiet HMr.out
          have HLt := Lib.hid hlt
          have hgA := hoA.get i hlt
          have hgB := hoB.get i hlt
          have hLl := hlenins i
          obtain ⟨r, hr⟩ : ∃ r, ins.getD i .zero = r := ⟨_, rfl⟩
          rw [hr] at hgA hgB hLl
          clear hr
          obtain ⟨rl, hrl⟩ : ∃ rl, r.lines.length = rl := ⟨_, rfl⟩
          rw [hrl] at hgA hgB
          obtain ⟨g1, e1, la1, lc1, hga1, p0, p1, p2, he1, ht1⟩ := hgA
          obtain ⟨g2, e2, la2, lc2, hga2, q0, q1, q2, he2, ht2⟩ := hgB
          have hix1 := ixa (P := Tryd.prog) 38 24 Tryd.underlying38 3 sizeR3 ga g1 0 gn gc i hga1 (by have := HOa.out.len; omega)
          have hix2 := ixa (P := Tryd.prog) 38 24 Tryd.underlying38 3 sizeR3 ia g2 0 inn ic i hga2 (by have := HOb.out.len; omega)
          rw [Nat.zero_add, Nat.mul_comm] at hix1 hix2
          have hee : e1 = e2 := nums_inj (by rw [he1, he2])
          have HSame := Lib.hid (fun (W : World) (hm : Mod [] wr W) => same_any W r.code e1 la1 rl lc1 r.lines (ht1.1.quiet hm) hrl.symm r.code e2 la2 rl lc2 r.lines (ht2.1.quiet hm) hrl.symm hLl hLl)
          unfold BoolP at HSame
          rw [show sameQ r.code e1 r.lines r.code e2 r.lines = true by unfold sameQ; rw [hee]; simp] at HSame
          have HKeep := Lib.hid (fun (W : World) (hm : Mod [] wr W) => (⟨hm.cell p0 (by simp), hm.cell p1 (by simp), hm.cell p2 (by simp), hm.cell q0 (by simp), hm.cell q1 (by simp), hm.cell q2 (by simp)⟩ : (fun W => W.cell? ⟨g1, 3 * i, none⟩ = some (.int .i64 r.code) ∧ W.cell? ⟨g1, 3 * i + 1, none⟩ = some (.string e1) ∧ W.cell? ⟨g1, 3 * i + 2, none⟩ = some (.slice la1 rl lc1) ∧ W.cell? ⟨g2, 3 * i, none⟩ = some (.int .i64 r.code) ∧ W.cell? ⟨g2, 3 * i + 1, none⟩ = some (.string e2) ∧ W.cell? ⟨g2, 3 * i + 2, none⟩ = some (.slice la2 rl lc2)) W))
          clear hoA hoB hga1 hga2 he1 he2 ht1 ht2 hLl hee hrl
          go_wp2_with fail
          refine wp_region_held_drew (S := (fun W => W.cell? ⟨g1, 3 * i, none⟩ = some (.int .i64 r.code) ∧ W.cell? ⟨g1, 3 * i + 1, none⟩ = some (.string e1) ∧ W.cell? ⟨g1, 3 * i + 2, none⟩ = some (.slice la1 rl lc1) ∧ W.cell? ⟨g2, 3 * i, none⟩ = some (.int .i64 r.code) ∧ W.cell? ⟨g2, 3 * i + 1, none⟩ = some (.string e2) ∧ W.cell? ⟨g2, 3 * i + 2, none⟩ = some (.slice la2 rl lc2))) (by kernel_rfl) (⟨p0, p1, p2, q0, q1, q2⟩) (fun hHeld => ?_)
          refine wpAnyH_take (i := 0) (oi := ?_) (v := ?_) ?_ (by kernel_rfl) (by kernel_rfl) (by kernel_rfl) ?_ (Or.inl ⟨?_, ?_⟩) hHeld ?_
          rotate_left 2
          · simp only [List.getElem?_toArray, List.getElem?_cons_succ, List.getElem?_cons_zero]; rfl
          · exact fun _ _ _ h => h
          · rfl
          · intro w hSw; (try dsimp only at hSw); go_simp; try (with_reducible rfl)
          try simp only [Act.put, List.setIfInBounds_toArray, List.set_cons_zero, List.set_cons_succ]
          refine wpAnyH_take (i := 1) (oi := ?_) (v := ?_) ?_ (by kernel_rfl) (by kernel_rfl) (by kernel_rfl) ?_ (Or.inl ⟨?_, ?_⟩) hHeld ?_
          rotate_left 2
          · simp only [List.getElem?_toArray, List.getElem?_cons_succ, List.getElem?_cons_zero]; rfl
          · exact fun _ _ _ h => h
          · rfl
          · intro w hSw; (try dsimp only at hSw); go_simp; try (with_reducible rfl)
          try simp only [Act.put, List.setIfInBounds_toArray, List.set_cons_zero, List.set_cons_succ]
          refine wpAnyH_take (i := 2) (oi := ?_) (v := ?_) ?_ (by kernel_rfl) (by kernel_rfl) (by kernel_rfl) ?_ (Or.inl ⟨?_, ?_⟩) hHeld ?_
          rotate_left 2
          · simp only [List.getElem?_toArray, List.getElem?_cons_succ, List.getElem?_cons_zero]; rfl
          · exact fun _ _ _ h => h
          · rfl
          · intro w hSw; (try dsimp only at hSw); go_simp; try (with_reducible rfl)
          try simp only [Act.put, List.setIfInBounds_toArray, List.set_cons_zero, List.set_cons_succ]
          refine wpAnyH_take (i := 3) (oi := ?_) (v := ?_) ?_ (by kernel_rfl) (by kernel_rfl) (by kernel_rfl) ?_ (Or.inl ⟨?_, ?_⟩) hHeld ?_
          rotate_left 2
          · simp only [List.getElem?_toArray, List.getElem?_cons_succ, List.getElem?_cons_zero]; rfl
          · exact fun _ _ _ h => h
          · rfl
          · intro w hSw; (try dsimp only at hSw); go_simp; try (with_reducible rfl)
          try simp only [Act.put, List.setIfInBounds_toArray, List.set_cons_zero, List.set_cons_succ]
          refine wpAnyH_take (i := 4) (oi := ?_) (v := ?_) ?_ (by kernel_rfl) (by kernel_rfl) (by kernel_rfl) ?_ (Or.inl ⟨?_, ?_⟩) hHeld ?_
          rotate_left 2
          · simp only [List.getElem?_toArray, List.getElem?_cons_succ, List.getElem?_cons_zero]; rfl
          · exact fun _ _ _ h => h
          · rfl
          · intro w hSw; (try dsimp only at hSw); go_simp; try (with_reducible rfl)
          try simp only [Act.put, List.setIfInBounds_toArray, List.set_cons_zero, List.set_cons_succ]
          refine wpAnyH_take (i := 5) (oi := ?_) (v := ?_) ?_ (by kernel_rfl) (by kernel_rfl) (by kernel_rfl) ?_ (Or.inl ⟨?_, ?_⟩) hHeld ?_
          rotate_left 2
          · simp only [List.getElem?_toArray, List.getElem?_cons_succ, List.getElem?_cons_zero]; rfl
          · exact fun _ _ _ h => h
          · rfl
          · intro w hSw; (try dsimp only at hSw); go_simp; try (with_reducible rfl)
          try simp only [Act.put, List.setIfInBounds_toArray, List.set_cons_zero, List.set_cons_succ]
          refine wpAnyH_take (i := 6) (oi := ?_) (v := ?_) ?_ (by kernel_rfl) (by kernel_rfl) (by kernel_rfl) ?_ (Or.inl ⟨?_, ?_⟩) hHeld ?_
          rotate_left 2
          · simp only [List.getElem?_toArray, List.getElem?_cons_succ, List.getElem?_cons_zero]; rfl
          · exact fun _ _ _ h => h
          · rfl
          · intro w hSw; (try dsimp only at hSw); go_simp; try (with_reducible rfl)
          try simp only [Act.put, List.setIfInBounds_toArray, List.set_cons_zero, List.set_cons_succ]
          refine wpAnyH_take (i := 7) (oi := ?_) (v := ?_) ?_ (by kernel_rfl) (by kernel_rfl) (by kernel_rfl) ?_ (Or.inl ⟨?_, ?_⟩) hHeld ?_
          rotate_left 2
          · simp only [List.getElem?_toArray, List.getElem?_cons_succ, List.getElem?_cons_zero]; rfl
          · exact fun _ _ _ h => h
          · rfl
          · intro w hSw; (try dsimp only at hSw); go_simp; try (with_reducible rfl)
          try simp only [Act.put, List.setIfInBounds_toArray, List.set_cons_zero, List.set_cons_succ]
          refine wpAnyH_ready (rs := [8]) (by kernel_rfl) (by simp) ?_
          refine AllReadyH.cons (o := ?_) ?_ (fun K hK => ?_) ?_
          rotate_left
          · simp only [List.getElem?_toArray, List.getElem?_cons_succ, List.getElem?_cons_zero]; rfl
          · go_simp
            refine (HSame.out _ (Mod.refl [] wr).drew).mono ?_
            rintro e w9 ⟨rfl, hm9⟩
            have HK9 := Lib.hid (HKeep.out _ ((Mod.refl [] wr).drew.trans hm9))
            have HM9 := Lib.hid ((HMr.out.drew).trans hm9)
            clear hm9
            go_wp2_with fail
            refine hK.out _ _ (HK9.out) ?_
            clear hK K hHeld
            intro hHeld
            try simp only [Act.put, List.setIfInBounds_toArray, List.set_cons_zero, List.set_cons_succ]
            refine wpAnyH_take (i := 9) (oi := ?_) (v := ?_) ?_ (by kernel_rfl) (by kernel_rfl) (by kernel_rfl) ?_ (Or.inl ⟨?_, ?_⟩) hHeld ?_
            rotate_left 2
            · simp only [List.getElem?_toArray, List.getElem?_cons_succ, List.getElem?_cons_zero]; rfl
            · exact fun _ _ _ h => h
            · rfl
            · intro w hSw; (try dsimp only at hSw); go_simp; try (with_reducible rfl)
            try simp only [Act.put, List.setIfInBounds_toArray, List.set_cons_zero, List.set_cons_succ]
            refine wpAnyH_done (by kernel_rfl) ?_ _
            clear hHeld
            go_wp2_with fail
            exact ⟨⟨i + 1, by go_num, by have := HLt.out; omega, HM9.out⟩, by have := HLt.out; simp [intOf]; omega⟩
          exact AllReadyH.nil
        · have hge : ¬ (i : Int) < (inn : Int) := by have := HOb.out.len; omega
          clear hlt
          go_wp2_with fail
          go_ret
          exact ⟨rfl, (HM7.out.trans HMr.out).toBelow (Nat.le_refl _) (by simp)⟩
end Go.Proofs.YtdedolbaldfmbaaDoor
