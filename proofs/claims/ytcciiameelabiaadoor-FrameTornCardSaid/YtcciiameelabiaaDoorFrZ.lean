/- Slices of byte slices that came in; how many bytes they have; the rows of their frames. -/
import Derived.Test.YtcciiameelabiaaDoorFrY
import Derived.Test.YtcciiameelabiaaDoorFrU
import Derived.Deep.Slices
import Derived.ChangeSlices
namespace Go.Proofs.YtcciiameelabiaaDoor
open Go.ChangeShapes Go.WideShapes Go.ChangeAt Go.RowKit
set_option linter.unusedVariables false
set_option linter.unusedSimpArgs false

/-- at the address a stand byte slices -/
structure LL (w : World) (a : Option Addr) (ls : List (List Int)) : Prop where
  bytes : ∀ x ∈ ls, Bytes x ∧ x.length ≤ 9223372036854775807
  at_ : ls = [] ∨ ∃ b o, a = some ⟨b, o, none⟩ ∧ ∀ i, i < ls.length → ∃ pa pc, w.cell? ⟨b, o + i, none⟩ = some (.slice pa (ls.getD i []).length pc) ∧ Cells8 w pa (ls.getD i [])
theorem LL.old {w w' : World} {a : Option Addr} {ls : List (List Int)} (hm : Below w.heap.size w w') (h : LL w a ls) : LL w' a ls := by
  refine ⟨h.bytes, ?_⟩
  rcases h.at_ with h1 | ⟨b, o, rfl, hc⟩
  · exact .inl h1
  · refine .inr ⟨b, o, rfl, fun i hi => ?_⟩
    obtain ⟨pa, pc, h1, h2⟩ := hc i hi
    exact ⟨pa, pc, (hm.cell (World.block_lt_of_cell? w _ h1)).trans h1, h2.old hm⟩
theorem LL.get {w : World} {a : Option Addr} {ls : List (List Int)} (h : LL w a ls) {i : Nat} (hi : i < ls.length) : ∃ b o pa pc, a = some ⟨b, o, none⟩ ∧ w.cell? ⟨b, o + i, none⟩ = some (.slice pa (ls.getD i []).length pc) ∧ Cells8 w pa (ls.getD i []) := by
  rcases h.at_ with rfl | ⟨b, o, rfl, hc⟩
  · simp at hi
  · obtain ⟨pa, pc, h1, h2⟩ := hc i hi
    exact ⟨b, o, pa, pc, rfl, h1, h2⟩
theorem getD_mem {α : Type} {ls : List α} {i : Nat} (d : α) (hi : i < ls.length) : ls.getD i d ∈ ls := by
  simp [List.getD, hi]
section
variable {H : Type} {enc : TypeId × Value → H}
theorem open_ll {W : World} {a : Option Addr} {len cap fuel : Nat} {x : DataW H × List MemPlace} (hf : DataW.trod enc Tryd.prog W 0 (fun _ => true) true fuel 53 [.slice a len cap] = some x) :
    ∃ l, LL W a l ∧ len = l.length ∧ l.length ≤ 9223372036854775807 := by
  rcases Go.Deep.open_slice1 Tryd.underlying53 (by kernel_rfl) hf with ⟨hcs, _⟩ | ⟨a', len', cap', m, n, V, D, Pl, hcs, _, hl, hm, hmm, _, hi⟩
  · simp at hcs
    obtain ⟨rfl, rfl, rfl⟩ := hcs
    exact ⟨[], ⟨by simp, .inl rfl⟩, rfl, by simp⟩
  · simp at hcs
    obtain ⟨rfl, rfl, rfl⟩ := hcs
    have hmx : maxLen = 9223372036854775807 := rfl
    have key : ∀ i, i < len → ∃ y : List Int, (Bytes y ∧ y.length ≤ 9223372036854775807) ∧ ∃ pa pc, W.cell? (a'.add i) = some (.slice pa y.length pc) ∧ Cells8 W pa y := by
      intro i hil
      obtain ⟨h1, h2⟩ := hi i (by simp at hmm; omega)
      rcases open_ints Tryd.underlying22 Tryd.underlying5 (by kernel_rfl) h2 with ⟨hv, _⟩ | ⟨b', len', cap', zs, hv, _, hl2, hm2, hz, _, hcell, hwz⟩
      · simp only [List.cons.injEq, and_true] at hv
        rw [hv] at h1
        exact ⟨[], ⟨Bytes.nil, by simp⟩, none, 0, h1, Cells8.nil _ _⟩
      · simp only [List.cons.injEq, and_true] at hv
        rw [hv] at h1
        obtain ⟨y, hy1, hy2, hy3⟩ := row8 hl2 hm2 (by simpa using hz) hcell hwz
        exact ⟨y, ⟨hy1.1, hy3⟩, some b', cap', by rw [← hy2]; exact h1, hy1⟩
    obtain ⟨f, hfi⟩ := Go.Deep.choose_lt key
    have hget : ∀ i, i < len → ((List.range len).map f).getD i [] = f i := by
      intro i hi; simp [List.getD, hi]
    refine ⟨(List.range len).map f, ⟨?_, ?_⟩, by simp, by simp; omega⟩
    · intro y hy
      obtain ⟨i, hi, rfl⟩ := List.mem_map.1 hy
      exact (hfi i (by simpa using hi)).1
    · by_cases h0 : len = 0
      · left; subst h0; rfl
      · right
        obtain ⟨b, o, spot⟩ := a'
        obtain ⟨_, pa0, pc0, hc0, _⟩ := hfi 0 (by omega)
        have hspot : spot = none := by simpa [Addr.add] using World.cell?_spot hc0
        subst hspot
        refine ⟨b, o, rfl, fun i hi => ?_⟩
        have hi' : i < len := by simpa using hi
        rw [hget i hi']
        obtain ⟨_, pa, pc, c0, c1⟩ := hfi i hi'
        rw [Addr.add_lit] at c0
        exact ⟨pa, pc, c0, c1⟩
end

/-- how many bytes byte slices have, but not much more than most -/
def bulkS (most : Nat) : List (List Int) → Nat → Nat
  | [], n => n
  | x :: r, n => if n ≤ most then bulkS most r (n + 1 + min x.length (most + 1)) else n
def sumL (ls : List (List Int)) : Nat := (ls.map List.length).sum
theorem bulkS_le (most : Nat) : ∀ (ls : List (List Int)) (n : Nat), bulkS most ls n ≤ most → n + ls.length + sumL ls ≤ most := by
  intro ls
  induction ls with
  | nil => intro n h; simpa [bulkS, sumL] using h
  | cons x r ih =>
    intro n h
    rw [bulkS] at h
    split at h
    · have := ih _ h
      simp only [sumL, List.map_cons, List.sum_cons, List.length_cons] at this ⊢
      omega
    · omega
theorem bulkS_drop (most : Nat) (ls : List (List Int)) (i n : Nat) (h : i < ls.length) (hn : n ≤ most) : bulkS most (ls.drop i) n = bulkS most (ls.drop (i + 1)) (n + 1 + min (ls.getD i []).length (most + 1)) := by
  rw [List.drop_eq_getElem_cons h, bulkS, if_pos hn]
  simp [List.getD, h]
theorem bulkS_stop (most : Nat) (ls : List (List Int)) (n : Nat) (h : ls = [] ∨ ¬ n ≤ most) : bulkS most ls n = n := by
  rcases h with rfl | h
  · rfl
  · cases ls with
    | nil => rfl
    | cons x r => rw [bulkS, if_neg h]
theorem sumL_mem {ls : List (List Int)} {x : List Int} (h : x ∈ ls) : x.length ≤ sumL ls := by
  induction ls with
  | nil => cases h
  | cons y r ih =>
    simp only [sumL, List.map_cons, List.sum_cons] at ih ⊢
    rcases List.mem_cons.1 h with rfl | h
    · omega
    · have := ih h; omega

set_option maxHeartbeats 1000000 in
theorem bulk_any (ls : List (List Int)) (a : Option Addr) (n cap : Nat) (w : World) (hc : LL w a ls) (hn : n = ls.length) (hl : ls.length ≤ 9223372036854775807) :
    Calls Tryd.prog 23 #[.slice a n cap, .int .i64 1000] w fun e w' => e = .returned (.int .i64 (bulkS 1000 ls 0)) ∧ w = w' := by
  subst hn
  have HC := Lib.hid hc
  clear hc
  go_enter Tryd.func23, Tryd.ntmps23
  go_wp2_with fail
  go_loop [5, 6] (fun m i => ∃ k b : Nat, k ≤ ls.length ∧ b ≤ 3000 ∧ i = .int .i64 k ∧ m = .int .i64 b ∧ bulkS 1000 (ls.drop k) b = bulkS 1000 ls 0) (fun _ i => (ls.length - intOf i).toNat)
  case atStart => exact ⟨0, 0, by omega, by omega, rfl, rfl, rfl⟩
  case round =>
    obtain ⟨k, b, hk, hb, rfl, rfl, he⟩ := hrel
    have HE := Lib.hid he
    clear he
    by_cases hlt : k < ls.length
    · by_cases hbm : b ≤ 1000
      · obtain ⟨bb, oo, pa, pc, rfl, h1, _⟩ := HC.out.get hlt
        have HN : Hid (bulkS 1000 (ls.drop (k + 1)) (b + 1 + min (ls.getD k []).length 1001) = bulkS 1000 ls 0) := Lib.hid (by rw [← HE.out, bulkS_drop 1000 ls k b hlt hbm])
        have hx := (HC.out.bytes _ (getD_mem [] hlt)).2
        generalize (ls.getD k []).length = x at *
        have hkI : (k : Int) < (ls.length : Int) := by omega
        have hk0I : (0 : Int) ≤ (k : Int) := by omega
        by_cases hx1 : x ≤ 1001
        · have HM : Hid (min x 1001 = x) := Lib.hid (by omega)
          have hmin : min (x : Int) 1001 = x := by omega
          go_wp2_with fail
          go_round
          case rel => exact ⟨k + 1, b + 1 + x, by omega, by omega, by go_num, by go_num, by rw [← HN.out, HM.out]⟩
          case measure => simp [intOf]; omega
        · have HM : Hid (min x 1001 = 1001) := Lib.hid (by omega)
          have hmin : min (x : Int) 1001 = 1001 := by omega
          go_wp2_with fail
          go_round
          case rel => exact ⟨k + 1, b + 1 + 1001, by omega, by omega, by go_num, by go_num, by rw [← HN.out, HM.out]⟩
          case measure => simp [intOf]; omega
      · have HN : Hid (b = bulkS 1000 ls 0) := Lib.hid (by rw [← HE.out, bulkS_stop _ _ _ (Or.inr hbm)])
        go_wp2_with fail
        go_ret
        exact ⟨by rw [← HN.out]; rfl, rfl⟩
    · have HN : Hid (b = bulkS 1000 ls 0) := Lib.hid (by rw [← HE.out, bulkS_stop _ _ _ (Or.inl (List.drop_of_length_le (by omega)))])
      go_wp2_with fail
      go_ret
      exact ⟨by rw [← HN.out]; rfl, rfl⟩

def psOf (ls : List (List Int)) (ks : List Int) : List KP := (List.range ls.length).map fun i => ⟨ks.getD i 0, ls.getD i []⟩
theorem psOf_length (ls : List (List Int)) (ks : List Int) : (psOf ls ks).length = ls.length := by simp [psOf]
theorem psOf_get (ls : List (List Int)) (ks : List Int) (i : Nat) (h : i < (psOf ls ks).length) : (psOf ls ks)[i] = ⟨ks.getD i 0, ls.getD i []⟩ := by simp [psOf]
theorem psOf_ok {ls : List (List Int)} {ks : List Int} (hk : Bytes ks) (hl : ∀ x ∈ ls, Bytes x ∧ x.length ≤ 65536) : ∀ x ∈ psOf ls ks, x.ok := by
  intro x hx
  simp only [psOf, List.mem_map, List.mem_range] at hx
  obtain ⟨i, hi, rfl⟩ := hx
  have h1 := hk.getD i
  have h2 := hl _ (getD_mem [] hi)
  exact ⟨⟨h1.1, by simp only; omega⟩, h2.1, h2.2⟩
/-- how many bytes the first frames have -/
def endN (ps : List KP) (i : Nat) : Nat := (rowL (ps.take i)).length
def endV (ps : List KP) (i : Nat) : List Value := (List.range i).map fun j => .int .i64 (endN ps (j + 1))
theorem endV_succ (ps : List KP) (i : Nat) : endV ps (i + 1) = endV ps i ++ [.int .i64 (endN ps (i + 1))] := by simp [endV, List.range_succ]
theorem rowL_le (ps : List KP) (B : Nat) (h : ∀ x ∈ ps, x.pay.length ≤ B) : (rowL ps).length ≤ ps.length * (19 + 2 * B) := by
  induction ps with
  | nil => simp [rowL_nil]
  | cons x r ih =>
    have h1 := ih fun y hy => h y (by simp [hy])
    have h2 := (wrapL_length x.kind x.pay).2
    have h3 := h x (by simp)
    rw [rowL_cons, List.length_append, List.length_cons, Nat.add_mul]
    omega
theorem endN_le (ps : List KP) (i : Nat) : endN ps i ≤ (rowL ps).length := by
  unfold endN
  have := congrArg (fun l => (rowL l).length) (List.take_append_drop i ps)
  simp only [rowL_append, List.length_append] at this
  omega

theorem Src.lit1 {P : Program} (w : World) (c0 : Value) (e : TypeId) (hb : c0.oneCell' = true) {tx : TypeId} (hk : P.underlying tx = some (.slice e)) :
    Src P 1 tx (.slice (some ⟨w.heap.size, 0, none⟩) 1 1) 1 [c0] (w.alloc (.cells #[c0] e)) := by
  refine Src.ofSlice _ hk _ 1 1 _ rfl ?_ (by intro u hu; simp at hu; subst hu; exact hb)
  intro j u hu
  rw [Addr.add_lit, Nat.zero_add, cell_of_row _ _ _ _ _ _ (heap_alloc_new w _)]
  simpa using hu
/-- the world of rows: the bytes so far, the ends so far -/
structure RwW (w wr : World) (va ve : Value) (ps : List KP) (i : Nat) : Prop where
  all : Own8 w.heap.size w wr va (rowL (ps.take i))
  ends : wr.ownsRow w.heap.size 3 1 ve i (endV ps i)
def RowsP (ps : List KP) (w : World) (e : Ending) (w' : World) : Prop :=
  ∃ va ve, e = .returned (.tuple #[va, ve]) ∧ RwW w w' va ve ps ps.length

set_option maxHeartbeats 2000000 in
theorem rows_any (ls : List (List Int)) (a : Option Addr) (n cap : Nat) (ks : List Int) (b : Option Addr) (m capb : Nat) (w : World) (hc : LL w a ls) (hn : n = ls.length) (hk : Cells8 w b ks) (hm : m = ks.length) (hlk : ls.length ≤ ks.length) (hl : ls.length ≤ 30) (hs : ∀ x ∈ ls, x.length ≤ 1000) (hkl : ks.length ≤ 9223372036854775807) (ht : Halves w) :
    Calls Tryd.prog 24 #[.slice a n cap, .slice b m capb] w (RowsP (psOf ls ks) w) := by
  subst hn
  subst hm
  have HC := Lib.hid hc
  have HK := Lib.hid hk
  have HT := Lib.hid ht
  have HS := Lib.hid hs
  have HOk := Lib.hid (psOf_ok (ks := ks) hk.1 (fun x hx => ⟨(hc.bytes x hx).1, Nat.le_trans (hs x hx) (by omega)⟩))
  clear hc hk ht hs
  have HPl := Lib.hid (psOf_length ls ks)
  have HLe : Hid ((rowL (psOf ls ks)).length ≤ 70000) := Lib.hid (by
    have h1 := rowL_le (psOf ls ks) 1000 (by
      intro x hx
      simp only [psOf, List.mem_map, List.mem_range] at hx
      obtain ⟨i, hi, rfl⟩ := hx
      exact HS.out _ (getD_mem [] hi))
    rw [HPl.out] at h1
    have : ls.length * (19 + 2 * 1000) ≤ 30 * (19 + 2 * 1000) := Nat.mul_le_mul_right _ hl
    omega)
  have HGet := Lib.hid (fun i h => psOf_get ls ks i h)
  generalize psOf ls ks = ps at *
  obtain ⟨ii, hi1, hi2, hi3, hi4⟩ := info_parts info_int
  have HW0 : Hid (RwW w w (.slice none 0 0) (.slice none 0 0) ps 0) := Lib.hid ⟨Own8.none w, World.ownsRow_nil _ _ _ _⟩
  go_enter Tryd.func24, Tryd.ntmps24
  go_wp2_with fail
  go_loopw [6, 7, 8] (fun va ve i wr => ∃ k : Nat, k ≤ ls.length ∧ i = .int .i64 k ∧ RwW w wr va ve ps k) (fun _ _ i _ => (ls.length - intOf i).toNat)
  case atStart => exact ⟨0, by omega, rfl, HW0.out⟩
  case round =>
    obtain ⟨k, hk, rfl, hw⟩ := hrel
    have HW := Lib.hid hw
    clear hw
    by_cases hlt : k < ls.length
    · have hkp : k < ps.length := by rw [HPl.out]; exact hlt
      have hsz := HW.out.all.size
      obtain ⟨ab, ob, pa, pc, rfl, h1, h2⟩ := (HC.out.old HW.out.all.below).get hlt
      obtain ⟨bb, kb, rfl, _⟩ := HK.out.addr (by omega)
      have h3 := (HK.out.old HW.out.all.below).at k (by omega)
      have HX : Hid ((ls.getD k []).length ≤ 1000) := Lib.hid (HS.out _ (getD_mem [] hlt))
      have HWr : Hid (∀ W, Mod [] wr W → Calls Tryd.prog 11 #[.int .i64 (ks.getD k 0), .slice pa (ls.getD k []).length pc] W (NewFrame (wrapL (ks.getD k 0) (ls.getD k [])) 0 W)) := Lib.hid fun W hm => by
        have hkd := HK.out.1.getD k
        have hE0 : wrapE (ks.getD k 0) (ls.getD k []).length = 0 := wrapE_ok.2 ⟨by omega, by have := HX.out; omega⟩
        have h := wrap_any (ks.getD k 0) (ls.getD k []) pa _ pc W (h2.mod hm (by simp)) rfl (by have := HX.out; omega) (HT.out.old (HW.out.all.below.trans (hm.toBelow hsz (by simp))))
        rwa [wrapR_ok hE0, hE0] at h
      have HRow : Hid (rowL (ps.take (k + 1)) = rowL (ps.take k) ++ wrapL (ks.getD k 0) (ls.getD k [])) := Lib.hid (by
        rw [List.take_succ_eq_append_getElem hkp, rowL_snoc, HGet.out k hkp])
      have HByt : Hid (Bytes (wrapL (ks.getD k 0) (ls.getD k []))) := Lib.hid (wrapL_bytes _ (HC.out.bytes _ (getD_mem [] hlt)).1)
      have hkd := HK.out.1.getD k
      generalize ks.getD k 0 = kd at *
      generalize (ls.getD k []).length = pl at *
      generalize wrapL kd (ls.getD k []) = fb at *
      have hkI : (k : Int) < (ls.length : Int) := by omega
      have hkI2 : (k : Int) < (ks.length : Int) := by omega
      have hk0I : (0 : Int) ≤ (k : Int) := by omega
      have hkw : IntKind.i64.wrap kd = kd := IntWalk.i64_in _ (by omega)
      have HM0 : Hid (Mod [] wr wr.drew) := Lib.hid ((Mod.refl [] wr).drew)
      go_wp2_with fail
      go_region_held3 (fun W => W.cell? ⟨bb, kb + k, none⟩ = some (.int .u8 kd) ∧ W.cell? ⟨ab, ob + k, none⟩ = some (.slice pa pl pc)) (first | exact ⟨h3, h1⟩ | exact hkp2) (first | (go_at_call 11; refine (HWr.out _ HM0.out).mono ?_; rintro e w2 ⟨a2, c2, rfl, ho⟩; have hm2 : Mod [] wr w2 := HM0.out.trans (Mod.ofBelow ho.below); have HM2 := Lib.hid hm2; have hkp2 : w2.cell? ⟨bb, kb + k, none⟩ = some (.int .u8 kd) ∧ w2.cell? ⟨ab, ob + k, none⟩ = some (.slice pa pl pc) := ⟨hm2.cell h3 (by simp), hm2.cell h1 (by simp)⟩; have HO2 := Lib.hid ho; clear ho hm2))
      have HA2 := Lib.hid (HW.out.all.quiet HM2.out)
      have HE2 := Lib.hid (HM2.out.owns HW.out.ends (by simp))
      have hlen1 : (rowL (ps.take k)).length + fb.length ≤ 70000 := by
        have h1 := HRow.out
        have h2 := congrArg List.length h1
        rw [List.length_append] at h2
        have h3 : (rowL (ps.take (k + 1))).length ≤ (rowL ps).length := endN_le ps (k + 1)
        have := HLe.out
        omega
      have hfbl : fb.length ≤ 70000 := by omega
      have HLen1 := Lib.hid hlen1
      obtain ⟨a6, c6, rfl⟩ := HA2.out.shape
      obtain ⟨a7, c7, rfl, hob, _⟩ := owns_shape HE2.out
      have HOb := Lib.hid hob
      clear hob
      clear h1 h2 h3 hkp2 HWr hlen1 HM0
      go_wp2_with (at_builtin; refine wpList_append8 _ rfl _ _ 22 22 rfl 5 Tryd.underlying22 Tryd.info8 _ (rowL (ps.take k)) rfl HA2.out.base _ _ fb rfl (Src.of8 HO2.out.cells Tryd.underlying22 _ _ rfl) (by have := HLen1.out; omega) (rowL (ps.take (k + 1))) HRow.out ?_)
      intro v3 w3 hg
      have HA3 := Lib.hid (HA2.out.grew hg (by rw [HRow.out]; exact HA2.out.bytes.append HByt.out))
      have HE3 := Lib.hid (hg.mod.owns HE2.out (fun x hx hm => (owns_isT HE2.out hx).ne (by decide) (owns_isT HA2.out.own (by simpa using hm))))
      clear hg
      obtain ⟨a3, c3, rfl⟩ := HA3.out.shape
      have hl3 : ((rowL (ps.take (k + 1))).length : Int) ≤ 70000 := by have h1 : (rowL (ps.take (k + 1))).length ≤ (rowL ps).length := endN_le ps (k + 1); have := HLe.out; omega
      have HEnd : Hid ((rowL (ps.take (k + 1))).length = endN ps (k + 1)) := Lib.hid rfl
      have HA3' := HA3
      generalize (rowL (ps.take (k + 1))).length = nl at HA3' HEnd hl3 ⊢
      go_wp2_with (at_builtin; refine wpList_append_src (w3.alloc (.cells #[.int .i64 nl] 3)) rfl _ _ 50 50 rfl w.heap.size 3 ii (.int .i64 0) 1 8 Tryd.underlying50 hi1 hi2 hi3 hi4 rfl _ k (endV ps k) rfl (((Mod.refl [] w3).alloc _).owns HE3.out (by simp)) _ 1 [.int .i64 nl] rfl (Src.lit1 w3 _ _ rfl Tryd.underlying50) (by simp only [maxLen]; omega) (by omega) (by have := HA3.out.size; simp; omega) ?_)
      intro v4 w4 ho4 hg4 hb4
      have HA4 := Lib.hid ((HA3.out.alloc (.cells #[.int .i64 nl] 3)).mod (Mod.ofGrown hg4) (by intro x hx; exact (HE3.out.lt x (Option.mem_toList.1 hx)).1) (by
        intro x hx hm
        exact (owns_isT HA3.out.own hx).ne (by decide) (owns_isT HE3.out (Option.mem_toList.1 hm))))
      have HE4 : Hid (w4.ownsRow w.heap.size 3 1 v4 (k + 1) (endV ps (k + 1))) := Lib.hid (by rw [endV_succ, ← HEnd.out]; exact ho4)
      obtain ⟨a4, c4, rfl, _⟩ := owns_shape ho4
      clear ho4 hg4 hb4
      go_wp2_with fail
      go_roundw
      case rel => exact ⟨k + 1, by omega, by go_num, by have h := HA4.out; rw [show (rowL (ps.take (k + 1))).length = nl from HEnd.out.symm] at h; exact h, HE4.out⟩
      case measure => simp [intOf]; omega
    · obtain rfl : k = ls.length := by omega
      go_wp2_with fail
      go_ret2
      exact ⟨_, _, rfl, by rw [HPl.out]; exact HW.out⟩
end Go.Proofs.YtcciiameelabiaaDoor
