/- The disk: keepWrites. -/
import Derived.Test.YtfcoaafmjllpfaaVfX
import Derived.Test.YtfcoaafmjllpfaaSl
namespace Go.Proofs.Ytfcoaafmjllpfaa
open Go.ChangeShapes Go.WideShapes Go.ChangeAt Go.RowKit
set_option linter.unusedVariables false
set_option linter.unusedSimpArgs false

theorem keep_from {P : Program} (T e : TypeId) (hT : P.underlying T = some (.slice e)) (hz : ∀ w, (Go.sizeOf e).run P w = .ok 1 w) (a : Option Addr) (n cap lo : Nat) (h2 : lo ≤ n) (hnc : n ≤ cap) :
    ∃ a2, (∀ W, (Instr.slice T (.slice a n cap) (some (.int .i64 lo)) none none).run P W = .ok (.slice a2 (n - lo) (cap - lo)) W) ∧ (∀ W (l : List Int), l.length = n → KeepAt W a l → KeepAt W a2 (l.drop lo)) ∧ blocks a2 = blocks a := by
  have ht' : P.underlying T = some (.slice (P.elem T)) := by simp [Program.elem, hT]
  have he : P.elem T = e := by simp [Program.elem, hT]
  refine ⟨if cap = lo then a else a.map (·.add lo), fun W => ?_, fun W l hl hc => ?_, ?_⟩
  · rw [run_slice_l W T _ _ _ ht' .i64 _ (by omega) (by omega), he, hz]
    simp [Result.andThen, sliced]
  · by_cases h0 : n = lo
    · exact .inl (by rw [List.drop_eq_nil_iff]; omega)
    · rcases hc with h1 | ⟨b, o, rfl, hc⟩
      · subst h1; exact .inl (by simp)
      · have hne : ¬ cap = lo := by omega
        rw [if_neg hne]
        refine .inr ⟨b, o + lo, by simp [Addr.add_lit], fun i hi' => ?_⟩
        have : lo + i < l.length := by rw [List.length_drop] at hi'; omega
        rw [List.getElem_drop, Nat.add_assoc]
        exact hc (lo + i) this
  · split
    · rfl
    · cases a with
      | none => rfl
      | some v =>
        show [(v.add lo).block] = [v.block]
        unfold Addr.add
        split <;> rfl
theorem KeepAt.take {w : World} {ka : Option Addr} {l : List Int} (h : KeepAt w ka l) (k : Nat) : KeepAt w ka (l.take k) := by
  rcases h with h1 | ⟨b, o, rfl, hc⟩
  · subst h1; exact .inl (by simp)
  · refine .inr ⟨b, o, rfl, fun i hi' => ?_⟩
    have : i < l.length := by rw [List.length_take] at hi'; omega
    rw [List.getElem_take]; exact hc i this
/-- one file's writes, kept as told; what is told of the rest -/
def kwStep (st : (Nat → FileD) × List Int) (b : Nat) : (Nat → FileD) × List Int :=
  (fun c => if c = b then (st.1 b).restore (st.2.take (min (st.1 b).writes.length st.2.length)) else st.1 c, st.2.drop (min (st.1 b).writes.length st.2.length))
def keepF (F : Nat → FileD) (keep : List Int) (ps : List Nat) : (Nat → FileD) × List Int := ps.foldl kwStep (F, keep)
theorem keepF_succ (F : Nat → FileD) (keep : List Int) (ps : List Nat) (k : Nat) (h : k < ps.length) : keepF F keep (ps.take (k + 1)) = kwStep (keepF F keep (ps.take k)) ps[k] := by
  unfold keepF
  rw [List.take_succ_eq_append_getElem h, List.foldl_append]
  rfl
theorem kw_other : ∀ (l : List Nat) (st : (Nat → FileD) × List Int) (c : Nat), c ∉ l → (l.foldl kwStep st).1 c = st.1 c
  | [], _, _, _ => rfl
  | b :: l, st, c, h => by
    rw [List.foldl_cons, kw_other l _ c (fun h2 => h (List.mem_cons_of_mem _ h2))]
    have : ¬ c = b := fun h2 => h (by rw [h2]; exact List.mem_cons_self)
    simp [kwStep, this]
theorem keepF_next (F : Nat → FileD) (keep : List Int) (ps : List Nat) (hn : ps.Nodup) (k : Nat) (h : k < ps.length) : (keepF F keep (ps.take k)).1 ps[k] = F ps[k] := by
  unfold keepF
  refine kw_other _ _ _ ?_
  intro hm
  obtain ⟨i, hi, he⟩ := List.mem_take_iff_getElem.1 hm
  exact List.pairwise_iff_getElem.1 hn i k (by omega) h (by omega) he
theorem keepF_nil (F : Nat → FileD) (ps : List Nat) : (keepF F [] ps).2 = [] := by
  unfold keepF
  suffices h : ∀ (ps : List Nat) (st : (Nat → FileD) × List Int), st.2 = [] → (ps.foldl kwStep st).2 = [] from h ps (F, []) rfl
  intro ps
  induction ps with
  | nil => intro st h; exact h
  | cons b r ih =>
    intro st h
    rw [List.foldl_cons]
    apply ih
    unfold kwStep
    simp only [h, List.drop_nil]
/-- files within the bounds of a restore -/
def DSt.FitK (x : DSt) : Prop := ∀ b ∈ x.ps, (x.F b).sure.length ≤ 1000000000 ∧ (x.F b).writes.length ≤ 1000000000 ∧ ∀ m ∈ (x.F b).writes, m.1 + m.2.length ≤ 1000000000
theorem FileAt.wl {w : World} {fb : Nat} {f : FileD} {vs vu vw : Value} {ws : List WrM} (h : FileAt w fb f vs vu vw ws) : ws.length = f.writes.length := by
  have := congrArg List.length h.eq
  simpa using this.symm
/-- so far -/
structure KwI (w wr : World) (g : Nat) (p : DPl) (x : DSt) (ka ka2 : Option Addr) (kc2 : Nat) (st : (Nat → FileD) × List Int) (V' : Nat → VT) : Prop where
  disk : DAt wr g p.nm p.su p.tu p.kn p.n1 p.n2 { x with F := st.1 } V'
  keep : KeepAt wr ka2 st.2
  cap : st.2.length ≤ kc2
  blk : blocks ka2 = blocks ka
  mod : Mod (p.all g x.ps) w wr
  all : ∀ c, ∀ q ∈ (V' c).all c, q ∈ (p.V c).all c ∨ w.heap.size ≤ q
set_option maxHeartbeats 4000000 in
theorem keepWrites_any (w : World) (g : Nat) (p : DPl) (x : DSt) (h : DOk w g p x) (hf : x.FitK) (hps : x.ps.length ≤ 1000000000) (ka : Option Addr) (kc : Nat) (keep : List Int) (hK : KeepAt w ka keep) (hkc : keep.length ≤ kc) (hkl : kc ≤ 9223372036854775807) (hd : keep ≠ [] → ∀ q ∈ blocks ka, q < w.heap.size ∧ q ∉ p.all g x.ps) :
    Calls Try.prog 48 #[.pointer (some ⟨g, 0, none⟩), .slice ka keep.length kc] w fun e w' => e = .returned (.tuple #[]) ∧ ∃ V' ka2 kc2, KwI w w' g p x ka ka2 kc2 (keepF x.F keep x.ps) V' := by
  obtain ⟨akn, ckn, hkn, -, -⟩ := owns_shape h.known
  have k4 : w.cell? ⟨g, 4, none⟩ = some (.slice akn (x.ps.map fptr).length ckn) := by rw [← hkn]; exact blk_cell h.row 4
  have HH := Lib.hid h
  have HFit := Lib.hid hf
  have HK := Lib.hid hK
  have HD := Lib.hid hd
  have HKn := Lib.hid hkn
  have hlm : (x.ps.map fptr).length = x.ps.length := List.length_map _
  rw [hlm] at k4
  have HKC := Lib.hid hkc
  clear h hf hK hd hkn hlm
  go_enter Try.func48, Try.ntmps48
  go_wp2_with fail
  go_loopw [1, 12] (fun kv i wr => ∃ (k : Nat) (ka2 : Option Addr) (kc2 : Nat) (V' : Nat → VT), i = .int .i64 k ∧ k ≤ x.ps.length ∧ kv = .slice ka2 (keepF x.F keep (x.ps.take k)).2.length kc2 ∧ kc2 ≤ 9223372036854775807 ∧ KwI w wr g p x ka ka2 kc2 (keepF x.F keep (x.ps.take k)) V') (fun _ i _ => (x.ps.length - intOf i).toNat)
  case atStart => exact ⟨0, ka, kc, p.V, rfl, Nat.zero_le _, rfl, hkl, ⟨HH.out, HK.out, HKC.out, rfl, Mod.refl _ _, fun c q hq => .inl hq⟩⟩
  case round =>
    obtain ⟨k, ka2, kc2, V', rfl, hk, rfl, hkc2, hI⟩ := hrel
    have HI := Lib.hid hI
    clear hI
    by_cases hlt : k < x.ps.length
    · have hst := keepF_succ x.F keep x.ps k hlt
      have hnx := keepF_next x.F keep x.ps HH.out.dup k hlt
      have hbp : x.ps[k]'hlt ∈ x.ps := List.getElem_mem hlt
      have hkn2 : Known wr p.kn x.ps := HI.out.disk.known
      rw [HKn.out] at hkn2
      obtain ⟨gk, hgk⟩ : ∃ gk, akn = some ⟨gk, 0, none⟩ := by
        rcases hkn2.2 with ⟨_, hz⟩ | ⟨g, c, _, hv, _⟩
        · rw [List.length_map] at hz; omega
        · exact ⟨g, by simp only [Value.slice.injEq] at hv; exact hv.1⟩
      subst hgk
      have j0 := hkn2.cellAt k (by rw [List.length_map]; omega)
      rw [List.getElem?_map, List.getElem?_eq_getElem hlt, Option.map_some] at j0
      generalize x.ps[k]'hlt = b at *
      generalize hst0 : keepF x.F keep (x.ps.take k) = st at *
      obtain ⟨F1, kp⟩ := st
      simp only at hnx
      have hFA := HI.out.disk.files b hbp
      simp only at hFA
      rw [hnx] at hFA
      obtain ⟨f1, f2, f3⟩ := HFit.out b hbp
      have hwl := hFA.wl
      obtain ⟨awr, cwr, hvw, -, -⟩ := owns_shape hFA.wr
      have k3 : wr.cell? ⟨b, 3, none⟩ = some (.slice awr (x.F b).writes.length cwr) := by rw [← hwl, ← hvw]; exact blk_cell hFA.row 3
      have hcap := HI.out.cap
      simp only at hcap
      have htold : min (x.F b).writes.length kp.length ≤ kp.length := Nat.min_le_right _ _
      obtain ⟨a5, r5, q5, b5⟩ := keep_from (P := Try.prog) 34 3 Try.underlying34 (fun w => by kernel_rfl) ka2 kp.length kc2 (min (x.F b).writes.length kp.length) htold hcap
      have hke : kp ≠ [] → keep ≠ [] := fun h1 h2 => h1 (by have e := keepF_nil x.F (x.ps.take k); have h3 := hst0; rw [h2] at h3; rw [h3] at e; exact e)
      have hfoot : kp ≠ [] → ∀ q ∈ blocks ka, q ∉ (V' b).foot b := by
        intro hkp
        intro q hq hq2
        obtain ⟨d1, d2⟩ := HD.out (hke hkp) q hq
        rcases HI.out.all b q (foot_all hq2) with h1 | h1
        · exact d2 (DPl.all_file hbp h1)
        · omega
      have hlt4 : (kp.take (min (x.F b).writes.length kp.length)).length = min (x.F b).writes.length kp.length := by rw [List.length_take]; omega
      have HY := frestore_any wr b (x.F b) _ _ _ _ hFA (fun m hm => by
        have hmem : (m.k, m.x) ∈ (x.F b).writes := by rw [show (x.F b).writes = _ from hFA.eq]; exact List.mem_map.2 ⟨m, hm, rfl⟩
        exact f3 _ hmem) f1 (by rw [hwl]; exact f2) ka2 kc2 (kp.take (min (x.F b).writes.length kp.length)) (HI.out.keep.take _) (fun hne q hq => by
          have hkp : kp ≠ [] := fun h => hne (by rw [h]; exact List.take_nil)
          rw [HI.out.blk] at hq
          exact ⟨Nat.lt_of_lt_of_le (HD.out (hke hkp) q hq).1 HI.out.mod.size, hfoot hkp q hq⟩) (by rw [hlt4, hwl]; exact Nat.min_le_left _ _)
      rw [hlt4] at HY
      have HYh := Lib.hid HY
      have HBp := Lib.hid hbp
      have HFo := Lib.hid hfoot
      have HQ5 := Lib.hid (And.intro q5 b5)
      have HSt := Lib.hid hst
      have HNx := Lib.hid hnx
      have HSt0 := Lib.hid hst0
      clear HY hFA hwl hvw hfoot q5 b5 hst hnx hbp hst0 hkn2 hlt4 f1 f3
      simp only [fptr] at j0
      generalize hn : (x.F b).writes.length = n at *
      generalize hl : kp.length = l at *
      generalize hm : min n l = m at *
      have hmin : min (n : Int) (l : Int) = (m : Int) := by omega
      go_wp2_with fail
      refine HYh.out.mono ?_
      rintro e w2 ⟨rfl, vs', vu', hf2, hm2, hu2, hs2⟩
      have HF2 := Lib.hid hf2
      have HM2 := Lib.hid hm2
      have HU2 := Lib.hid hu2
      have HS2 := Lib.hid hs2
      clear hf2 hm2 hu2 hs2
      go_wp2_with fail
      have e5 : keepF x.F keep (x.ps.take (k + 1)) = (fun c => if c = b then (x.F b).restore (kp.take m) else F1 c, kp.drop m) := by
        rw [HSt.out]
        unfold kwStep
        simp only [HNx.out, hn, hl, hm]
      have hlm : (kp.drop m).length = l - m := by rw [List.length_drop, hl]
      have hin : ∀ q ∈ (⟨vs', vu', .slice none 0 0, []⟩ : VT).all b, q ∈ (V' b).all b ∨ wr.heap.size ≤ q := by
        intro q hq
        simp only [VT.all, fAll, fFoot, wrReads, List.mem_cons, List.mem_append, Option.mem_toList, List.flatMap_nil, List.not_mem_nil, or_false] at hq ⊢
        rcases hq with h1 | h1 | h1 | h1
        · exact .inl (.inl (.inl h1))
        · exact .inr (HS2.out q h1)
        · rcases HU2.out q h1 with h2 | h2
          · exact .inl (.inl (.inr (.inr (.inl h2))))
          · exact .inr h2
        · cases h1
      have hms := HI.out.mod.size
      have HKw : KwI w w2 g p x ka a5 (kc2 - m) (keepF x.F keep (x.ps.take (k + 1))) (fun c => if c = b then ⟨vs', vu', .slice none 0 0, []⟩ else V' c) := by
        rw [e5]
        refine ⟨HI.out.disk.setFile b HBp.out HM2.out _ ⟨vs', vu', .slice none 0 0, []⟩ HF2.out hin, HQ5.out.1 w2 kp hl (HI.out.keep.mod2 HM2.out (fun hne q hq => HFo.out hne q (by rw [← HI.out.blk]; exact hq))), ?_, HQ5.out.2.trans HI.out.blk, HI.out.mod.trans' HM2.out ?_, ?_⟩
        · show (kp.drop m).length ≤ kc2 - m
          rw [hlm]; omega
        · intro q hq
          rcases HI.out.all b q (foot_all hq) with h1 | h1
          · exact .inl (DPl.all_file HBp.out h1)
          · exact .inr h1
        · intro c q hq
          by_cases he : c = b
          · subst he
            simp only [if_true] at hq
            rcases hin q hq with h1 | h1
            · exact HI.out.all c q h1
            · exact .inr (Nat.le_trans hms h1)
          · simp only [he, if_false] at hq
            exact HI.out.all c q hq
      go_roundw
      case rel => exact ⟨k + 1, a5, kc2 - m, _, by go_num, by omega, by rw [e5]; simp only [hlm], by omega, HKw⟩
      case measure => simp [intOf]; omega
    · have hke : k = x.ps.length := by omega
      subst hke
      rw [List.take_length] at HI
      go_wp2_with fail
      go_end0
      exact ⟨rfl, V', ka2, kc2, HI.out⟩
end Go.Proofs.Ytfcoaafmjllpfaa
