/- DotPieces: in whatever pieces bytes come, it is the same. -/
import Derived.Test.YthcgnnhfkejglaaDoorDtQd
import Derived.Test.YthcgnnhfkejglaaDoorDtZ
import Derived.Test.YthcgnnhfkejglaaDoorSl
import Derived.Deep.RegionHeld3
namespace Go.Proofs.YthcgnnhfkejglaaDoor
open Go.Shelf Go.ChangeShapes Go.WideShapes Go.ChangeAt Go.RowKit
set_option linter.unusedVariables false
set_option linter.unusedSimpArgs false

/-- a slice of ints that came in -/
def In64 (w : World) (a : Option Addr) (n : Nat) (zs : List Int) : Prop := ∀ i, i < n → ∃ b o, a = some ⟨b, o, none⟩ ∧ b < w.heap.size ∧ w.cell? ⟨b, o + i, none⟩ = some (.int .i64 (zs.getD i 0)) ∧ -9223372036854775808 ≤ zs.getD i 0 ∧ zs.getD i 0 ≤ 9223372036854775807
theorem row_in64 {w : World} {a : Option Addr} {len cap : Nat} {zs : List Int} (h : (a = none ∧ len = 0 ∧ cap = 0 ∧ zs = []) ∨ ∃ x, a = some x ∧ len ≤ cap ∧ cap ≤ maxLen ∧ zs.length = cap ∧ (∀ i, i < zs.length → w.cell? (x.add i) = some (.int .i64 (zs.getD i 0))) ∧ ∀ n ∈ zs, (Lit.int .i64 n).wf = true) : In64 w a len zs := by
  rcases h with ⟨rfl, rfl, rfl, rfl⟩ | ⟨⟨b, o, spot⟩, rfl, h1, h2, h3, h4, h5⟩
  · intro i hi; omega
  · intro i hi
    have hc := h4 i (by omega)
    have hs : spot = none := by
      have h0 := h4 0 (by omega)
      simpa [Addr.add] using World.cell?_spot h0
    subst hs
    rw [Addr.add_lit] at hc
    have hw : (Lit.int .i64 (zs.getD i 0)).wf = true := h5 _ (by
      have e : zs.getD i 0 = zs[i]'(by omega) := by simp [List.getD, show i < zs.length by omega]
      rw [e]; exact List.getElem_mem _)
    have hb : -9223372036854775808 ≤ zs.getD i 0 ∧ zs.getD i 0 ≤ 9223372036854775807 := by simpa [Lit.wf, IntKind.min, IntKind.max, IntKind.signed, IntKind.bits] using hw
    exact ⟨b, o, rfl, World.block_lt_of_cell? w _ hc, hc, hb.1, hb.2⟩
theorem owns_empty' (w : World) : (w.alloc (.cells #[] 5)).ownsRow 0 5 1 (.slice (some ⟨w.heap.size, 0, none⟩) 0 0) ([] : List Int).length (u8s []) := by
  refine ⟨rfl, .inr ⟨w.heap.size, 0, #[], rfl, Nat.zero_le _, heap_alloc_new w _, Nat.le_refl _, by simp [maxLen], rfl, rfl⟩⟩
theorem size8 : ∀ w, (Go.sizeOf 5).run Tryd.prog w = .ok 1 w := fun w => by kernel_rfl
/-- bytes of one's own that are written over -/
def OwnB (n : Nat) (W : World) (a : Option Addr) : Prop := n = 0 ∨ ∃ ob cur, a = some ⟨ob, 0, none⟩ ∧ W.heap[ob]? = some (.cells cur 5 (0, 0)) ∧ ∀ j, j < n → ∃ x, cur[j]? = some (.int .u8 x) ∧ 0 ≤ x ∧ x < 256
theorem OwnB.of {W : World} {a : Option Addr} {n c : Nat} {p : List Int} (hb : Bytes p) (hn : n = p.length) (h : W.ownsRow 0 5 1 (.slice a n c) n (u8s p)) : OwnB n W a := by
  by_cases h0 : n = 0
  · exact Or.inl h0
  · right
    rcases h.2 with ⟨he, hn'⟩ | ⟨g, cp, cur, hv, _, hh, _, _, _, htk⟩
    · omega
    · simp only [Value.slice.injEq] at hv
      obtain ⟨rfl, _, rfl⟩ := hv
      refine ⟨g, cur, rfl, hh, fun j hj => ⟨p.getD j 0, ?_, (hb.getD j).1, (hb.getD j).2⟩⟩
      have e1 : (u8s p)[j]? = some (.int .u8 (p.getD j 0)) := by
        have : j < p.length := by omega
        simp [List.getD, this]
      rw [← htk] at e1
      rw [List.getElem?_take] at e1
      split at e1
      · simpa using e1
      · cases e1
theorem OwnB.set {W : World} {ob n k : Nat} {cur : Array Value} (hh : W.heap[ob]? = some (.cells cur 5 (0, 0))) (hc : ∀ j, j < n → ∃ x, cur[j]? = some (.int .u8 x) ∧ 0 ≤ x ∧ x < 256) (y : Int) (h0 : 0 ≤ y) (h1 : y < 256) : OwnB n (W.setCell ⟨ob, k, none⟩ (.int .u8 y)) (some ⟨ob, 0, none⟩) := by
  refine Or.inr ⟨ob, _, rfl, blk_set hh k _, fun j hj => ?_⟩
  by_cases hkj : k = j
  · subst hkj
    obtain ⟨x, hx, _⟩ := hc k hj
    have hlt : k < cur.size := (Array.getElem?_eq_some_iff.1 hx).1
    exact ⟨y, by simp [hlt], h0, h1⟩
  · obtain ⟨x, hx, hx2⟩ := hc j hj
    exact ⟨x, by rw [Array.getElem?_setIfInBounds_ne hkj]; exact hx, hx2⟩
/-- the decoder behind the first pieces -/
structure Pie (w : World) (gd M : Nat) (l : List Int) (at_ : Nat) (v : Value) (wr : World) : Prop where
  dec : Dec wr gd v (feedS s0 (l.take at_)).1 M
  fr : ∀ k, v.ownBlock = some k → gd ≤ k
  bel : Below w.heap.size w wr
theorem min_used {l : List Int} {at_ tt : Nat} (h1 : at_ ≤ tt) (h2 : tt ≤ l.length) : feedS s0 (l.take tt) = ((feedS (feedS s0 (l.take at_)).1 ((l.drop at_).take (tt - at_))).1, (feedS s0 (l.take at_)).2 + (feedS (feedS s0 (l.take at_)).1 ((l.drop at_).take (tt - at_))).2) ∧
    min (tt : Int) ((feedS s0 (l.take tt)).2 : Int) - min (at_ : Int) ((feedS s0 (l.take tt)).2 : Int) = ((feedS (feedS s0 (l.take at_)).1 ((l.drop at_).take (tt - at_))).2 : Int) := by
  have e : l.take tt = l.take at_ ++ (l.drop at_).take (tt - at_) := by
    have e1 : tt = at_ + (tt - at_) := by omega
    conv => lhs; rw [e1]
    exact List.take_add
  have hf : feedS s0 (l.take tt) = ((feedS (feedS s0 (l.take at_)).1 ((l.drop at_).take (tt - at_))).1, (feedS s0 (l.take at_)).2 + (feedS (feedS s0 (l.take at_)).1 ((l.drop at_).take (tt - at_))).2) := by
    conv => lhs; rw [e]
    exact feedS_append _ _ _
  refine ⟨hf, ?_⟩
  rw [hf]
  simp only
  have l1 : (l.take at_).length = at_ := by rw [List.length_take]; omega
  have l2 : ((l.drop at_).take (tt - at_)).length = tt - at_ := by rw [List.length_take, List.length_drop]; omega
  have b1 := feedS_le (l.take at_) s0
  have b2 := feedS_le ((l.drop at_).take (tt - at_)) (feedS s0 (l.take at_)).1
  by_cases h5 : (feedS s0 (l.take at_)).1.st = 5
  · rw [feedS_done h5]
    simp only
    omega
  · have := feedS_all (l.take at_) s0 h5
    omega

set_option maxRecDepth 100000 in
set_option maxHeartbeats 32000000 in
theorem dpieces_any (w : World) (a : Option Addr) (n cap : Nat) (l : List Int) (most : Int) (a2 : Option Addr) (n2 cap2 : Nat) (zs : List Int) (h : In8 w a n cap l) (hz : In64 w a2 n2 zs) (hM : ML w) (hnl : l.length ≤ 9223372036854775807) (hn2 : n2 ≤ 9223372036854775807) (hmost : most ≤ 9223372036854775807) :
    Calls Tryd.prog 5 #[.slice a n cap, .int .i64 most, .slice a2 n2 cap2] w (AwP w) := by
  have hncap : n ≤ cap := by rcases h with ⟨_, h1, h2, _⟩ | ⟨_, _, h1, _⟩ <;> omega
  obtain ⟨hc, rfl⟩ := h.cells
  have HAw := Lib.hid (awake_any w hM)
  have HC := Lib.hid hc
  have HZ := Lib.hid hz
  clear h hM hc hz
  go_enter Tryd.func5, Tryd.ntmps5
  go_wp2_with fail
  refine HAw.out.mono ?_
  rintro e w3 ⟨rfl, hb⟩
  have HM := Lib.hid (Mod.ofBelow hb)
  clear hb HAw
  by_cases hl : 1000 < l.length
  · have hl' : (1000 : Int) < (l.length : Int) := by omega
    go_wp2_with fail
    go_ret
    exact ⟨rfl, HM.out.toBelow (Nat.le_refl _) (by simp)⟩
  have hl' : (l.length : Int) ≤ 1000 := by omega
  by_cases hl2 : 60 < n2
  · have hl2' : (60 : Int) < (n2 : Int) := by omega
    go_wp2_with fail
    go_ret
    exact ⟨rfl, HM.out.toBelow (Nat.le_refl _) (by simp)⟩
  have hl2' : (n2 : Int) ≤ 60 := by omega
  have hlN : l.length ≤ 1000 := by omega
  have hnN : n2 ≤ 60 := by omega
  clear hl hl2
  go_wp2_with fail
  refine (newDecoder_any w3 most hmost).mono ?_
  rintro e w4 ⟨rfl, rfl⟩
  have hd := Dec.new w3 most.toNat
  have hm4 : Mod [] w3 (w3.alloc (decO 0 0 most.toNat (.slice none 0 0) false false false)) := (Mod.refl [] w3).alloc _
  have HP0 := Lib.hid (show Pie w w3.heap.size most.toNat l 0 (.slice none 0 0) (w3.alloc (decO 0 0 most.toNat (.slice none 0 0) false false false)) from
    ⟨by simpa [feedS] using hd, by simp [Value.ownBlock], (HM.out.trans hm4).toBelow (Nat.le_refl _) (by simp)⟩)
  have HGd := Lib.hid HM.out.size
  have HMm := Lib.hid (show most.toNat ≤ 9223372036854775807 by omega)
  clear hd hm4 HM
  go_wp2_with fail
  generalize w3.alloc (decO 0 0 most.toNat (.slice none 0 0) false false false) = w4 at *
  generalize w3.heap.size = gd at *
  go_loopw [8, 9] (fun x y wr => ∃ (at_ i : Nat) (v : Value), x = .int .i64 at_ ∧ y = .int .i64 i ∧ at_ ≤ l.length ∧ i ≤ n2 + 1 ∧ Pie w gd most.toNat l at_ v wr) (fun _ y _ => n2 + 1 - (intOf y).toNat)
  case atStart => exact ⟨0, 0, .slice none 0 0, rfl, rfl, Nat.zero_le _, Nat.zero_le _, HP0.out⟩
  case round =>
    obtain ⟨at_, i, v, rfl, rfl, hat, hi, hp⟩ := hrel
    obtain ⟨wo, rfl⟩ : ∃ wo : World, wo = wr := ⟨_, rfl⟩
    have HPi := Lib.hid hp
    clear hp
    by_cases hlt : i ≤ n2
    · obtain ⟨tt, htt, hatt, httl⟩ : ∃ tt : Nat, (if i < n2 then min (max (zs.getD i 0) (at_ : Int)) (l.length : Int) = (tt : Int) else (tt = l.length)) ∧ at_ ≤ tt ∧ tt ≤ l.length := by
        by_cases hi2 : i < n2
        · refine ⟨(min (max (zs.getD i 0) (at_ : Int)) (l.length : Int)).toNat, ?_, by omega, by omega⟩
          rw [if_pos hi2]; omega
        · exact ⟨l.length, by rw [if_neg hi2], hat, Nat.le_refl _⟩
      have HCo := Lib.hid (Cells8.old HPi.out.bel HC.out)
      obtain ⟨a3, c3, hsl, hc3, -, hcl⟩ := slice8 (P := Tryd.prog) 22 5 Tryd.underlying22 size8 a l.length cap at_ tt hatt httl hncap
      obtain ⟨a4, hst, hct⟩ := slice8_to (P := Tryd.prog) 22 5 Tryd.underlying22 size8 a l.length cap tt httl hncap
      have HCl := Lib.hid hcl
      have HCt := Lib.hid hct
      have HU := Lib.hid (min_used hatt httl)
      have hpl : ((l.drop at_).take (tt - at_)).length = tt - at_ := by rw [List.length_take, List.length_drop]; omega
      have hbd := feedS_bd (l.take at_) s0 (by simp [s0])
      have hz1 : s0.all.length = 0 := rfl
      have hz2 : s0.line = 0 := rfl
      have hz3 : (l.take at_).length = at_ := by rw [List.length_take]; omega
      rw [hz1, hz2, hz3] at hbd
      have HBd := Lib.hid hbd
      have HPb := Lib.hid (show Bytes ((l.drop at_).take (tt - at_)) from (HC.out.1.drop _).take _)
      clear hcl hct hbd hz1 hz2 hz3
      by_cases hi2 : i < n2
      · rw [if_pos hi2] at htt
        obtain ⟨cb, co, rfl, hcb, hcell, hz1, hz2⟩ := HZ.out i hi2
        have hcell' := (Mod.ofBelow HPi.out.bel).cell hcell (by simp)
        generalize zs.getD i 0 = cz at *
        obtain ⟨mx, hmx⟩ : ∃ mx, max cz (at_ : Int) = mx := ⟨_, rfl⟩
        rw [hmx] at htt
        have hi2' : (i : Int) < (n2 : Int) := by omega
        clear hcell hcb
        go_upto_region 13 with (fail)
        have hLl : (l.take tt).length = tt := by rw [List.length_take]; omega
        have hU := HU.out
        generalize hLT : l.take tt = LT at *
        have HLT := Lib.hid hLT
        have HLl := Lib.hid hLl
        clear hLT hLl HU
        have HU := Lib.hid hU
        clear hU
        have HRf := Lib.hid (ref_eqs LT)
        rw [HU.out.1] at HRf
        have HUs := Lib.hid HU.out.2
        rw [HU.out.1] at HUs
        have HTq := Lib.hid HU.out.1
        generalize hpp : (l.drop at_).take (tt - at_) = p at *
        have hcp := HCl.out wo l rfl HCo.out
        rw [hpp] at hcp
        have HCp := Lib.hid hcp
        have HDg := Lib.hid (fun W (hm : Mod [] wo W) => HPi.out.dec.quiet hm)
        have hgl := HPi.out.dec.lt
        have hvl : ∀ k, v.ownBlock = some k → k < wo.heap.size := fun k hk => (owns_lt HPi.out.dec.own hk).2
        have HVl := Lib.hid hvl
        have HGl := Lib.hid hgl
        have hpl3 : p.length ≤ 1000 := by omega
        have HPl := Lib.hid hpl
        have hal : Mod [] wo (wo.alloc (.cells #[] 5)) := (Mod.refl [] wo).alloc _
        have HAl := Lib.hid hal
        generalize hs1 : (feedS s0 (l.take at_)).1 = s1 at *
        generalize hu0 : (feedS s0 (l.take at_)).2 = u0 at *
        clear hpp hcp hvl hgl hal hs1 hu0 HU hpl
        go_wp2_with (at_builtin; refine wpList_append8 _ rfl _ _ 22 22 rfl 5 Tryd.underlying22 info8 _ [] rfl (owns_empty' wo) _ _ p rfl (Src.of8 (HCp.out.mod HAl.out (by simp)) Tryd.underlying22 _ _ HPl.out.symm) (by simp; omega) p rfl ?_)
        intro v5 w5 hg5
        have hm5 : Mod [] wo w5 := HAl.out.trans' hg5.mod (by intro x hx; right; simp [Value.ownBlock] at hx; omega)
        have hfr5 : ∀ k, v5.ownBlock = some k → wo.heap.size ≤ k := by
          intro k hk
          rcases hg5.blk with e | e
          · rw [e] at hk; simp [Value.ownBlock] at hk; omega
          · rw [e] at hk; simp at hk; omega
        have ho5 := hg5.own
        obtain ⟨a5, c5, rfl, hob5, -⟩ := owns_shape ho5
        have hf := feed_any w5 gd v s1 most.toNat (HDg.out w5 hm5) HMm.out HBd.out.1 a5 c5 p (Cells8.ofOwns HPb.out ho5) (by
          intro x hx hax
          have h1 := hfr5 x.block (by rw [hob5, hax]; rfl)
          have h2 := HGl.out
          refine ⟨by omega, fun hv => ?_⟩
          have h3 := HVl.out _ hv
          omega) (by have := HBd.out; omega) (by have := HBd.out; omega)
        unfold FeedP at hf
        have hdn := HRf.out.2.2.2.2
        have hus := HRf.out.2.2.2.1
        (try simp only at hdn hus HUs)
        rw [hus] at HUs
        rw [hdn] at hf
        have HF := Lib.hid hf
        have HFr5 := Lib.hid hfr5
        have HM5 := Lib.hid hm5
        have HO5 := Lib.hid ho5
        clear hg5 hm5 hfr5 ho5 hob5 hf hdn hus
        generalize hRR : feedS s1 p = RR at *
        obtain ⟨s2, u1⟩ := RR
        (try simp only at HF HUs HRf HTq)
        have HRR := Lib.hid hRR
        clear hRR
        go_wp2_with fail
        refine HF.out.mono ?_
        rintro e w6 ⟨rfl, v6, hp6⟩
        have hF5 : ∀ k, (Value.slice a5 p.length c5).ownBlock = some k → k ∉ gd :: v.ownBlock.toList := by
          intro k hk hx
          have h1 := HFr5.out k hk
          have h2 := HGl.out
          simp only [List.mem_cons, Option.mem_toList] at hx
          rcases hx with rfl | hx
          · omega
          · have h3 := HVl.out k hx; omega
        have HOb := Lib.hid (OwnB.of HPb.out rfl (hp6.mod.owns HO5.out hF5))
        have HP6 := Lib.hid hp6
        have HF5 := Lib.hid hF5
        clear hp6 hF5 HF
        go_wp2_with fail
        go_loopw [14] (fun x wi => ∃ k : Nat, x = .int .i64 k ∧ k ≤ p.length ∧ OwnB p.length wi a5 ∧ Mod (Value.slice a5 p.length c5).ownBlock.toList w6 wi) (fun x _ => p.length - (intOf x).toNat)
        case atStart => exact ⟨0, rfl, Nat.zero_le _, HOb.out, Mod.refl _ _⟩
        case round =>
          obtain ⟨k, rfl, hk, hob, hmi⟩ := hrel
          obtain ⟨wj, rfl⟩ : ∃ wj : World, wj = wr := ⟨_, rfl⟩
          have HMi := Lib.hid hmi
          clear hmi
          by_cases hkl : k < p.length
          · rcases hob with h0 | ⟨ob, cur, rfl, hh, hcu⟩
            · omega
            have hcu' := hcu
            obtain ⟨x, hx, hx0, hx1⟩ := hcu k hkl
            have HCu := Lib.hid hcu'
            have HH := Lib.hid hh
            have hkc := blk_cell hh k
            rw [hx] at hkc
            have hkf := blk_free hh k
            have HMs := Lib.hid (fun (u : Value) => HMi.out.setCell (p := ⟨ob, k, none⟩) (Or.inl (by simp [Value.ownBlock])) u)
            clear hcu hcu' hh hx
            by_cases h255 : x = 255
            · subst h255
              have HOn := Lib.hid (OwnB.set (k := k) HH.out HCu.out 0 (by omega) (by omega))
              go_wp2_with fail
              go_roundw
              case rel => exact ⟨k + 1, by go_num, hkl, HOn.out, HMs.out _⟩
              case measure => simp [intOf]; omega
            · have hx2 : x + 1 ≤ 255 := by omega
              have HOn := Lib.hid (OwnB.set (k := k) HH.out HCu.out (x + 1) (by omega) (by omega))
              go_wp2_with fail
              go_roundw
              case rel => exact ⟨k + 1, by go_num, hkl, HOn.out, HMs.out _⟩
              case measure => simp [intOf]; omega
          · have hge : ¬ ((k : Int) < (p.length : Int)) := by omega
            clear hob
            have hB7 : Below w.heap.size w wj := ((HPi.out.bel.trans (HM5.out.toBelow (by have := HPi.out.bel.size; omega) (by simp))).trans (HP6.out.mod.toBelow (by have := HPi.out.bel.size; have := HM5.out.size; omega) (by
              intro x hx
              have h1 := HGd.out
              simp only [List.mem_cons, Option.mem_toList] at hx
              rcases hx with rfl | hx
              · omega
              · have := HPi.out.fr x hx; omega))).trans (HMi.out.toBelow (by have := HPi.out.bel.size; have := HM5.out.size; have := HP6.out.mod.size; omega) (by
              intro x hx
              have h1 := HFr5.out x (by simpa using hx)
              have := HPi.out.bel.size
              omega))
            have hgF : gd ∉ (Value.slice a5 p.length c5).ownBlock.toList := by
              intro hx
              exact HF5.out gd (by simpa using hx) (by simp)
            have hv6 : ∀ k, v6.ownBlock = some k → k ∉ (Value.slice a5 p.length c5).ownBlock.toList := by
              intro k hk hx
              have hk5 := (by simpa using hx : (Value.slice a5 p.length c5).ownBlock = some k)
              rcases HP6.out.blk k hk with h1 | h1
              · exact HF5.out k hk5 (by simp [h1])
              · have := (owns_lt HO5.out hk5).2; omega
            have hD7 := HP6.out.dec.mod HMi.out hgF hv6
            have HD7 := Lib.hid hD7
            have HB7 := Lib.hid hB7
            have hfr6 : ∀ k, v6.ownBlock = some k → gd ≤ k := by
              intro k hk
              rcases HP6.out.blk k hk with h1 | h1
              · exact HPi.out.fr k h1
              · have h2 := HGl.out; have := HM5.out.size; omega
            have HFr6 := Lib.hid hfr6
            have hct7 := HCt.out wj l rfl (Cells8.old hB7 HC.out)
            rw [HLT.out] at hct7
            have hlt7 : LT.length = tt := HLl.out
            have hrd := rdecode_any wj a4 cap LT hct7 (by rw [hlt7]; omega) most hmost
            rw [hlt7] at hrd
            unfold GotP at hrd
            have HRd := Lib.hid hrd
            have hEq := HRf.out
            obtain ⟨E1, E2, E3, E4, E5⟩ := hEq
            have HTx := Lib.hid (fun W (hm : Mod [] wj W) => text_any W gd v6 s2 most.toNat (HD7.out.quiet hm) (by
              have h1 := feedS_bd p s1 HBd.out.1
              rw [HRR.out] at h1
              have := HBd.out
              simp only at h1
              omega))
            have HDn := Lib.hid (fun W (hm : Mod [] wj W) => done_any W gd v6 s2 most.toNat (HD7.out.quiet hm) (refG g0 LT).done E5.symm)
            rw [E1, E2, E3] at HTx
            clear hB7 hgF hv6 hD7 hfr6 hct7 hlt7 hrd E1 E2 E3 E5
            generalize (refG g0 LT).all.take most.toNat = K at *
            generalize decide (most.toNat < (refG g0 LT).all.length) = la at *
            generalize (refG g0 LT).long = lo at *
            generalize (refG g0 LT).bare = ba at *
            generalize (refG g0 LT).used = us at *
            generalize (refG g0 LT).done = dn at *
            go_wp2_with fail
            refine HRd.out.mono ?_
            rintro e w8 ⟨a6, c6, rfl, hc6, hm8⟩
            have hg9 := heap_alloc_new w8 (.cells (gotC (.slice a6 K.length c6) lo ba la us dn) 32)
            have hm9 : Mod [] w8 (w8.alloc (.cells (gotC (.slice a6 K.length c6) lo ba la us dn) 32)) := (Mod.refl [] w8).alloc _
            have HG9 := Lib.hid hg9
            have HM9 := Lib.hid (hm8.trans hm9)
            have HC9 := Lib.hid (hc6.mod hm9 (by simp))
            clear hc6 hm8 hg9 hm9 HRd
            go_upto_region 20 with (fail)
            generalize w8.alloc (.cells (gotC (.slice a6 K.length c6) lo ba la us dn) 32) = w9 at *
            generalize w8.heap.size = gb at *
            obtain ⟨m1, hm1⟩ : ∃ m1, min (tt : Int) (us : Int) = m1 := ⟨_, rfl⟩
            obtain ⟨m2, hm2⟩ : ∃ m2, min (at_ : Int) (us : Int) = m2 := ⟨_, rfl⟩
            have hsub : IntKind.i64.wrap (m1 - m2) = (u1 : Int) := by
              have h1 := HUs.out
              rw [hm1, hm2] at h1
              rw [h1]
              exact IntWalk.i64_in _ (by have h2 := feedS_le p s1; rw [HRR.out] at h2; simp only at h2; omega)
            have y0 := blk_cell HG9.out 0
            have y1 := blk_cell HG9.out 1
            have y2 := blk_cell HG9.out 2
            have y3 := blk_cell HG9.out 3
            have y4 := blk_cell HG9.out 4
            have y5 := blk_cell HG9.out 5
            simp only [List.getElem?_toArray, List.getElem?_cons_zero, List.getElem?_cons_succ] at y0 y1 y2 y3 y4 y5
            have HKb := Lib.hid HC9.out.1
            go_region_held3 (fun W => W.cell? ⟨gb, 0, none⟩ = some (.slice a6 K.length c6) ∧ W.cell? ⟨gb, 1, none⟩ = some (.bool lo) ∧ W.cell? ⟨gb, 2, none⟩ = some (.bool ba) ∧ W.cell? ⟨gb, 3, none⟩ = some (.bool la) ∧ W.cell? ⟨gb, 4, none⟩ = some (.int .i64 us) ∧ W.cell? ⟨gb, 5, none⟩ = some (.bool dn)) ((go_keep)) (first | (go_at_call 18; refine (HTx.out _ HM9.out.drew).mono ?_; rintro e wt ⟨vt, rfl, hot, hbt⟩; obtain ⟨ta, tc, rfl, -, -⟩ := owns_shape hot; have q0 := (Mod.ofBelow hbt).cell (p := ⟨gb, 0, none⟩) (v := .slice a6 K.length c6) (by first | assumption | simp [*]) (by simp); have q1 := (Mod.ofBelow hbt).cell (p := ⟨gb, 1, none⟩) (v := .bool lo) (by first | assumption | simp [*]) (by simp); have q2 := (Mod.ofBelow hbt).cell (p := ⟨gb, 2, none⟩) (v := .bool ba) (by first | assumption | simp [*]) (by simp); have q3 := (Mod.ofBelow hbt).cell (p := ⟨gb, 3, none⟩) (v := .bool la) (by first | assumption | simp [*]) (by simp); have q4 := (Mod.ofBelow hbt).cell (p := ⟨gb, 4, none⟩) (v := .int .i64 us) (by first | assumption | simp [*]) (by simp); have q5 := (Mod.ofBelow hbt).cell (p := ⟨gb, 5, none⟩) (v := .bool dn) (by first | assumption | simp [*]) (by simp); have HMt := Lib.hid (HM9.out.drew.trans (Mod.ofBelow hbt)); have HC1 := Lib.hid (Cells8.ofOwns HKb.out hot); have HC2 := Lib.hid (HC9.out.mod ((Mod.refl [] w9).drew.trans (Mod.ofBelow hbt)) (by simp)); clear hot hbt) | (go_at_call 15; refine (same_any _ _ _ _ _ K lo ba la HC1.out HC2.out).mono ?_; rintro e ws ⟨rfl, hbs⟩; have q0 := (Mod.ofBelow hbs).cell (p := ⟨gb, 0, none⟩) (v := .slice a6 K.length c6) (by first | assumption | simp [*]) (by simp); have q1 := (Mod.ofBelow hbs).cell (p := ⟨gb, 1, none⟩) (v := .bool lo) (by first | assumption | simp [*]) (by simp); have q2 := (Mod.ofBelow hbs).cell (p := ⟨gb, 2, none⟩) (v := .bool ba) (by first | assumption | simp [*]) (by simp); have q3 := (Mod.ofBelow hbs).cell (p := ⟨gb, 3, none⟩) (v := .bool la) (by first | assumption | simp [*]) (by simp); have q4 := (Mod.ofBelow hbs).cell (p := ⟨gb, 4, none⟩) (v := .int .i64 us) (by first | assumption | simp [*]) (by simp); have q5 := (Mod.ofBelow hbs).cell (p := ⟨gb, 5, none⟩) (v := .bool dn) (by first | assumption | simp [*]) (by simp); have HMt := Lib.hid (HMt.out.trans (Mod.ofBelow hbs)); clear hbs) | (go_at_call 19; refine (HDn.out _ HMt.out).mono ?_; rintro e wd ⟨rfl, rfl⟩))
            all_goals
              have HMt1 := Lib.hid HMt.out
              go_wp2_with fail
              go_roundw
              case rel => exact ⟨tt, i + 1, v6, rfl, by go_num, by omega, by omega, ⟨by rw [HLT.out, HTq.out]; exact HD7.out.quiet HMt1.out, HFr6.out, HB7.out.trans (HMt1.out.toBelow HB7.out.size (by simp))⟩⟩
              case measure => simp [intOf]; omega
      · rw [if_neg hi2] at htt
        subst htt
        have hi2' : ¬ ((i : Int) < (n2 : Int)) := by omega
        go_upto_region 13 with (fail)
        have hLl : (l.take l.length).length = l.length := by rw [List.length_take]; omega
        have hU := HU.out
        generalize hLT : l.take l.length = LT at *
        have HLT := Lib.hid hLT
        have HLl := Lib.hid hLl
        clear hLT hLl HU
        have HU := Lib.hid hU
        clear hU
        have HRf := Lib.hid (ref_eqs LT)
        rw [HU.out.1] at HRf
        have HUs := Lib.hid HU.out.2
        rw [HU.out.1] at HUs
        have HTq := Lib.hid HU.out.1
        generalize hpp : (l.drop at_).take (l.length - at_) = p at *
        have hcp := HCl.out wo l rfl HCo.out
        rw [hpp] at hcp
        have HCp := Lib.hid hcp
        have HDg := Lib.hid (fun W (hm : Mod [] wo W) => HPi.out.dec.quiet hm)
        have hgl := HPi.out.dec.lt
        have hvl : ∀ k, v.ownBlock = some k → k < wo.heap.size := fun k hk => (owns_lt HPi.out.dec.own hk).2
        have HVl := Lib.hid hvl
        have HGl := Lib.hid hgl
        have hpl3 : p.length ≤ 1000 := by omega
        have HPl := Lib.hid hpl
        have hal : Mod [] wo (wo.alloc (.cells #[] 5)) := (Mod.refl [] wo).alloc _
        have HAl := Lib.hid hal
        generalize hs1 : (feedS s0 (l.take at_)).1 = s1 at *
        generalize hu0 : (feedS s0 (l.take at_)).2 = u0 at *
        clear hpp hcp hvl hgl hal hs1 hu0 HU hpl
        go_wp2_with (at_builtin; refine wpList_append8 _ rfl _ _ 22 22 rfl 5 Tryd.underlying22 info8 _ [] rfl (owns_empty' wo) _ _ p rfl (Src.of8 (HCp.out.mod HAl.out (by simp)) Tryd.underlying22 _ _ HPl.out.symm) (by simp; omega) p rfl ?_)
        intro v5 w5 hg5
        have hm5 : Mod [] wo w5 := HAl.out.trans' hg5.mod (by intro x hx; right; simp [Value.ownBlock] at hx; omega)
        have hfr5 : ∀ k, v5.ownBlock = some k → wo.heap.size ≤ k := by
          intro k hk
          rcases hg5.blk with e | e
          · rw [e] at hk; simp [Value.ownBlock] at hk; omega
          · rw [e] at hk; simp at hk; omega
        have ho5 := hg5.own
        obtain ⟨a5, c5, rfl, hob5, -⟩ := owns_shape ho5
        have hf := feed_any w5 gd v s1 most.toNat (HDg.out w5 hm5) HMm.out HBd.out.1 a5 c5 p (Cells8.ofOwns HPb.out ho5) (by
          intro x hx hax
          have h1 := hfr5 x.block (by rw [hob5, hax]; rfl)
          have h2 := HGl.out
          refine ⟨by omega, fun hv => ?_⟩
          have h3 := HVl.out _ hv
          omega) (by have := HBd.out; omega) (by have := HBd.out; omega)
        unfold FeedP at hf
        have hdn := HRf.out.2.2.2.2
        have hus := HRf.out.2.2.2.1
        (try simp only at hdn hus HUs)
        rw [hus] at HUs
        rw [hdn] at hf
        have HF := Lib.hid hf
        have HFr5 := Lib.hid hfr5
        have HM5 := Lib.hid hm5
        have HO5 := Lib.hid ho5
        clear hg5 hm5 hfr5 ho5 hob5 hf hdn hus
        generalize hRR : feedS s1 p = RR at *
        obtain ⟨s2, u1⟩ := RR
        (try simp only at HF HUs HRf HTq)
        have HRR := Lib.hid hRR
        clear hRR
        go_wp2_with fail
        refine HF.out.mono ?_
        rintro e w6 ⟨rfl, v6, hp6⟩
        have hF5 : ∀ k, (Value.slice a5 p.length c5).ownBlock = some k → k ∉ gd :: v.ownBlock.toList := by
          intro k hk hx
          have h1 := HFr5.out k hk
          have h2 := HGl.out
          simp only [List.mem_cons, Option.mem_toList] at hx
          rcases hx with rfl | hx
          · omega
          · have h3 := HVl.out k hx; omega
        have HOb := Lib.hid (OwnB.of HPb.out rfl (hp6.mod.owns HO5.out hF5))
        have HP6 := Lib.hid hp6
        have HF5 := Lib.hid hF5
        clear hp6 hF5 HF
        go_wp2_with fail
        go_loopw [14] (fun x wi => ∃ k : Nat, x = .int .i64 k ∧ k ≤ p.length ∧ OwnB p.length wi a5 ∧ Mod (Value.slice a5 p.length c5).ownBlock.toList w6 wi) (fun x _ => p.length - (intOf x).toNat)
        case atStart => exact ⟨0, rfl, Nat.zero_le _, HOb.out, Mod.refl _ _⟩
        case round =>
          obtain ⟨k, rfl, hk, hob, hmi⟩ := hrel
          obtain ⟨wj, rfl⟩ : ∃ wj : World, wj = wr := ⟨_, rfl⟩
          have HMi := Lib.hid hmi
          clear hmi
          by_cases hkl : k < p.length
          · rcases hob with h0 | ⟨ob, cur, rfl, hh, hcu⟩
            · omega
            have hcu' := hcu
            obtain ⟨x, hx, hx0, hx1⟩ := hcu k hkl
            have HCu := Lib.hid hcu'
            have HH := Lib.hid hh
            have hkc := blk_cell hh k
            rw [hx] at hkc
            have hkf := blk_free hh k
            have HMs := Lib.hid (fun (u : Value) => HMi.out.setCell (p := ⟨ob, k, none⟩) (Or.inl (by simp [Value.ownBlock])) u)
            clear hcu hcu' hh hx
            by_cases h255 : x = 255
            · subst h255
              have HOn := Lib.hid (OwnB.set (k := k) HH.out HCu.out 0 (by omega) (by omega))
              go_wp2_with fail
              go_roundw
              case rel => exact ⟨k + 1, by go_num, hkl, HOn.out, HMs.out _⟩
              case measure => simp [intOf]; omega
            · have hx2 : x + 1 ≤ 255 := by omega
              have HOn := Lib.hid (OwnB.set (k := k) HH.out HCu.out (x + 1) (by omega) (by omega))
              go_wp2_with fail
              go_roundw
              case rel => exact ⟨k + 1, by go_num, hkl, HOn.out, HMs.out _⟩
              case measure => simp [intOf]; omega
          · have hge : ¬ ((k : Int) < (p.length : Int)) := by omega
            clear hob
            have hB7 : Below w.heap.size w wj := ((HPi.out.bel.trans (HM5.out.toBelow (by have := HPi.out.bel.size; omega) (by simp))).trans (HP6.out.mod.toBelow (by have := HPi.out.bel.size; have := HM5.out.size; omega) (by
              intro x hx
              have h1 := HGd.out
              simp only [List.mem_cons, Option.mem_toList] at hx
              rcases hx with rfl | hx
              · omega
              · have := HPi.out.fr x hx; omega))).trans (HMi.out.toBelow (by have := HPi.out.bel.size; have := HM5.out.size; have := HP6.out.mod.size; omega) (by
              intro x hx
              have h1 := HFr5.out x (by simpa using hx)
              have := HPi.out.bel.size
              omega))
            have hgF : gd ∉ (Value.slice a5 p.length c5).ownBlock.toList := by
              intro hx
              exact HF5.out gd (by simpa using hx) (by simp)
            have hv6 : ∀ k, v6.ownBlock = some k → k ∉ (Value.slice a5 p.length c5).ownBlock.toList := by
              intro k hk hx
              have hk5 := (by simpa using hx : (Value.slice a5 p.length c5).ownBlock = some k)
              rcases HP6.out.blk k hk with h1 | h1
              · exact HF5.out k hk5 (by simp [h1])
              · have := (owns_lt HO5.out hk5).2; omega
            have hD7 := HP6.out.dec.mod HMi.out hgF hv6
            have HD7 := Lib.hid hD7
            have HB7 := Lib.hid hB7
            have hfr6 : ∀ k, v6.ownBlock = some k → gd ≤ k := by
              intro k hk
              rcases HP6.out.blk k hk with h1 | h1
              · exact HPi.out.fr k h1
              · have h2 := HGl.out; have := HM5.out.size; omega
            have HFr6 := Lib.hid hfr6
            have hct7 := HCt.out wj l rfl (Cells8.old hB7 HC.out)
            rw [HLT.out] at hct7
            have hlt7 : LT.length = l.length := HLl.out
            have hrd := rdecode_any wj a4 cap LT hct7 (by rw [hlt7]; omega) most hmost
            rw [hlt7] at hrd
            unfold GotP at hrd
            have HRd := Lib.hid hrd
            have hEq := HRf.out
            obtain ⟨E1, E2, E3, E4, E5⟩ := hEq
            have HTx := Lib.hid (fun W (hm : Mod [] wj W) => text_any W gd v6 s2 most.toNat (HD7.out.quiet hm) (by
              have h1 := feedS_bd p s1 HBd.out.1
              rw [HRR.out] at h1
              have := HBd.out
              simp only at h1
              omega))
            have HDn := Lib.hid (fun W (hm : Mod [] wj W) => done_any W gd v6 s2 most.toNat (HD7.out.quiet hm) (refG g0 LT).done E5.symm)
            rw [E1, E2, E3] at HTx
            clear hB7 hgF hv6 hD7 hfr6 hct7 hlt7 hrd E1 E2 E3 E5
            generalize (refG g0 LT).all.take most.toNat = K at *
            generalize decide (most.toNat < (refG g0 LT).all.length) = la at *
            generalize (refG g0 LT).long = lo at *
            generalize (refG g0 LT).bare = ba at *
            generalize (refG g0 LT).used = us at *
            generalize (refG g0 LT).done = dn at *
            go_wp2_with fail
            refine HRd.out.mono ?_
            rintro e w8 ⟨a6, c6, rfl, hc6, hm8⟩
            have hg9 := heap_alloc_new w8 (.cells (gotC (.slice a6 K.length c6) lo ba la us dn) 32)
            have hm9 : Mod [] w8 (w8.alloc (.cells (gotC (.slice a6 K.length c6) lo ba la us dn) 32)) := (Mod.refl [] w8).alloc _
            have HG9 := Lib.hid hg9
            have HM9 := Lib.hid (hm8.trans hm9)
            have HC9 := Lib.hid (hc6.mod hm9 (by simp))
            clear hc6 hm8 hg9 hm9 HRd
            go_upto_region 20 with (fail)
            generalize w8.alloc (.cells (gotC (.slice a6 K.length c6) lo ba la us dn) 32) = w9 at *
            generalize w8.heap.size = gb at *
            obtain ⟨m1, hm1⟩ : ∃ m1, min (l.length : Int) (us : Int) = m1 := ⟨_, rfl⟩
            obtain ⟨m2, hm2⟩ : ∃ m2, min (at_ : Int) (us : Int) = m2 := ⟨_, rfl⟩
            have hsub : IntKind.i64.wrap (m1 - m2) = (u1 : Int) := by
              have h1 := HUs.out
              rw [hm1, hm2] at h1
              rw [h1]
              exact IntWalk.i64_in _ (by have h2 := feedS_le p s1; rw [HRR.out] at h2; simp only at h2; omega)
            have y0 := blk_cell HG9.out 0
            have y1 := blk_cell HG9.out 1
            have y2 := blk_cell HG9.out 2
            have y3 := blk_cell HG9.out 3
            have y4 := blk_cell HG9.out 4
            have y5 := blk_cell HG9.out 5
            simp only [List.getElem?_toArray, List.getElem?_cons_zero, List.getElem?_cons_succ] at y0 y1 y2 y3 y4 y5
            have HKb := Lib.hid HC9.out.1
            go_region_held3 (fun W => W.cell? ⟨gb, 0, none⟩ = some (.slice a6 K.length c6) ∧ W.cell? ⟨gb, 1, none⟩ = some (.bool lo) ∧ W.cell? ⟨gb, 2, none⟩ = some (.bool ba) ∧ W.cell? ⟨gb, 3, none⟩ = some (.bool la) ∧ W.cell? ⟨gb, 4, none⟩ = some (.int .i64 us) ∧ W.cell? ⟨gb, 5, none⟩ = some (.bool dn)) ((go_keep)) (first | (go_at_call 18; refine (HTx.out _ HM9.out.drew).mono ?_; rintro e wt ⟨vt, rfl, hot, hbt⟩; obtain ⟨ta, tc, rfl, -, -⟩ := owns_shape hot; have q0 := (Mod.ofBelow hbt).cell (p := ⟨gb, 0, none⟩) (v := .slice a6 K.length c6) (by first | assumption | simp [*]) (by simp); have q1 := (Mod.ofBelow hbt).cell (p := ⟨gb, 1, none⟩) (v := .bool lo) (by first | assumption | simp [*]) (by simp); have q2 := (Mod.ofBelow hbt).cell (p := ⟨gb, 2, none⟩) (v := .bool ba) (by first | assumption | simp [*]) (by simp); have q3 := (Mod.ofBelow hbt).cell (p := ⟨gb, 3, none⟩) (v := .bool la) (by first | assumption | simp [*]) (by simp); have q4 := (Mod.ofBelow hbt).cell (p := ⟨gb, 4, none⟩) (v := .int .i64 us) (by first | assumption | simp [*]) (by simp); have q5 := (Mod.ofBelow hbt).cell (p := ⟨gb, 5, none⟩) (v := .bool dn) (by first | assumption | simp [*]) (by simp); have HMt := Lib.hid (HM9.out.drew.trans (Mod.ofBelow hbt)); have HC1 := Lib.hid (Cells8.ofOwns HKb.out hot); have HC2 := Lib.hid (HC9.out.mod ((Mod.refl [] w9).drew.trans (Mod.ofBelow hbt)) (by simp)); clear hot hbt) | (go_at_call 15; refine (same_any _ _ _ _ _ K lo ba la HC1.out HC2.out).mono ?_; rintro e ws ⟨rfl, hbs⟩; have q0 := (Mod.ofBelow hbs).cell (p := ⟨gb, 0, none⟩) (v := .slice a6 K.length c6) (by first | assumption | simp [*]) (by simp); have q1 := (Mod.ofBelow hbs).cell (p := ⟨gb, 1, none⟩) (v := .bool lo) (by first | assumption | simp [*]) (by simp); have q2 := (Mod.ofBelow hbs).cell (p := ⟨gb, 2, none⟩) (v := .bool ba) (by first | assumption | simp [*]) (by simp); have q3 := (Mod.ofBelow hbs).cell (p := ⟨gb, 3, none⟩) (v := .bool la) (by first | assumption | simp [*]) (by simp); have q4 := (Mod.ofBelow hbs).cell (p := ⟨gb, 4, none⟩) (v := .int .i64 us) (by first | assumption | simp [*]) (by simp); have q5 := (Mod.ofBelow hbs).cell (p := ⟨gb, 5, none⟩) (v := .bool dn) (by first | assumption | simp [*]) (by simp); have HMt := Lib.hid (HMt.out.trans (Mod.ofBelow hbs)); clear hbs) | (go_at_call 19; refine (HDn.out _ HMt.out).mono ?_; rintro e wd ⟨rfl, rfl⟩))
            all_goals
              have HMt1 := Lib.hid HMt.out
              go_wp2_with fail
              go_roundw
              case rel => exact ⟨l.length, i + 1, v6, rfl, by go_num, by omega, by omega, ⟨by rw [HLT.out, HTq.out]; exact HD7.out.quiet HMt1.out, HFr6.out, HB7.out.trans (HMt1.out.toBelow HB7.out.size (by simp))⟩⟩
              case measure => simp [intOf]; omega
    · have hge : ¬ ((i : Int) ≤ (n2 : Int)) := by omega
      have hie : i = n2 + 1 := by omega
      go_wp2_with fail
      go_ret
      exact ⟨rfl, HPi.out.bel⟩
end Go.Proofs.YthcgnnhfkejglaaDoor
