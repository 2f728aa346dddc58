/- OctetBack: whatever is put down is taken as it was, and nothing is left: for every input, no condition. -/
import Derived.Test.YtdgghfmhnidegaaMem2
import Derived.Deep.QuietTactic
import Derived.BigQuiet
import Derived.Deep.LoopGhost
import Derived.Deep.RegionWith
import Derived.Deep.DeepCutAuto
namespace Go.Proofs.Ytdgghfmhnidegaa
open Go.ChangeShapes Go.WideShapes Go.ChangeAt Go.RowKit
set_option linter.unusedVariables false
set_option linter.unusedSimpArgs false

/-- what a word puts down, and whether it is put -/
def encW (x : Wd) : List Int := if x.kind = 0 then putL x.v x.k else if x.kind = 1 then sinkIL x.n x.k else if x.kind = 2 then textL x.s else if x.kind = 3 then nums x.s else []
def inW (x : Wd) : Bool := if x.kind = 0 then holdsB x.v x.k else if x.kind = 1 then fitsB x.n x.k else true
def encL (l : List Wd) : List Int := l.flatMap encW
def inV (l : List Wd) : List Value := l.map fun x => .bool (inW x)
theorem encW_bytes (x : Wd) : Bytes (encW x) := by
  unfold encW sinkIL putL
  repeat' split
  all_goals first | exact be_bytes _ _ | exact textL_bytes _ | exact nums_bytes _ | exact Bytes.nil
theorem be_len8 {v k : Int} (h : 1 ≤ k ∧ k ≤ 8) : (be v k.toNat).length ≤ 8 := by rw [be_length]; omega
theorem encW_len (x : Wd) (h : x.s.size ≤ 300) : (encW x).length ≤ 304 := by
  unfold encW sinkIL putL
  repeat' split
  all_goals first
    | (have h1 := be_len8 (v := x.v) (holds_iff.1 ‹_›).1; omega)
    | (have h1 := be_len8 (v := unsV x.n x.k) (fits_iff.1 ‹_›).1; omega)
    | (rw [textL_length]; omega)
    | (rw [nums_length]; omega)
    | simp
theorem encL_take {l : List Wd} {n : Nat} (h : n < l.length) : encL (l.take (n + 1)) = encL (l.take n) ++ encW (l.getD n default) := by
  rw [take_succ' h]; simp [encL]
theorem inV_take {l : List Wd} {n : Nat} (h : n < l.length) : inV (l.take (n + 1)) = inV (l.take n) ++ [.bool (inW (l.getD n default))] := by
  rw [take_succ' h]; simp [inV]
theorem encL_len (l : List Wd) (h : ∀ x ∈ l, x.s.size ≤ 300) : (encL l).length ≤ 304 * l.length := by
  induction l with
  | nil => simp [encL]
  | cons x l ih =>
    have h1 := encW_len x (h x (by simp))
    have h2 := ih (fun y hy => h y (by simp [hy]))
    simp only [encL, List.flatMap_cons, List.length_append, List.length_cons] at h2 ⊢
    omega
theorem Try.infoBool : (Try.prog.info? 4).map (fun i => (i.zero, i.size, i.bytes)) = some (some (.bool false), 1, 1) := by kernel_rfl

/-- the first loop's relation -/
def BackRel (l : List Wd) (B : Nat) (w0 : World) (s : Nat) (n : Nat) (va : Value) (w : World) : Prop :=
  ∃ vs, TwoV B w0 w s vs (encL (l.take n)) 4 va (inV (l.take n))
theorem back_end {l : List Wd} {B : Nat} {w0 w : World} {s n : Nat} {vs va : Value} {acc : List Int} {xs : List Value} (hlt : n < l.length) (h : TwoV B w0 w s vs acc 4 va xs) (ha : acc = encL (l.take n) ++ encW (l.getD n default)) (hx : xs = inV (l.take n) ++ [.bool (inW (l.getD n default))]) :
    BackRel l B w0 s (n + 1) va w := ⟨vs, by rw [encL_take hlt, inV_take hlt, ← ha, ← hx]; exact h⟩

theorem putL_take {v k : Int} {r : List Int} (h0 : 0 ≤ v) (h : holdsB v k = true) : srcUE (putL v k ++ r) 0 k = 0 ∧ srcUL (putL v k ++ r) 0 k = r ∧ srcUV (putL v k ++ r) 0 k = v := by
  obtain ⟨⟨ha, hb⟩, hc⟩ := holds_iff.1 h
  have hp : putL v k = be v k.toNat := by simp [putL, h]
  have hl : (putL v k).length = k.toNat := by rw [hp, be_length]
  have he : srcUE (putL v k ++ r) 0 k = 0 := by
    unfold srcUE
    rw [if_neg (by decide), if_neg (by simp [sizedB, ha, hb]), if_neg (by rw [List.length_append, hl]; omega)]
  refine ⟨he, ?_, ?_⟩
  · rw [srcUL, if_pos he, ← hl, List.drop_left]
  · rw [srcUV, if_pos he, ← hl, List.take_left, hp, val_be, Int.emod_eq_of_lt h0 hc]
theorem sinkIL_take {x k : Int} {r : List Int} (h : fitsB x k = true) : srcUE (sinkIL x k ++ r) 0 k = 0 ∧ srcUL (sinkIL x k ++ r) 0 k = r ∧ signedR (srcUV (sinkIL x k ++ r) 0 k) k = x := by
  obtain ⟨hu0, hu1, hu2, hu3⟩ := uns_facts h
  have hl : sinkIL x k = putL (unsV x k) k := by simp [sinkIL, putL, h, hu2]
  obtain ⟨e1, e2, e3⟩ := putL_take (r := r) hu0 hu2
  rw [hl]
  exact ⟨e1, e2, by rw [e3, signedR, if_pos hu2, hu3]⟩
theorem textL_take {s : ByteArray} {r : List Int} (h : s.size ≤ 300) : srcTE (textL s ++ r) 0 300 = 0 ∧ srcTL (textL s ++ r) 0 300 = r ∧ srcTV (textL s ++ r) 0 300 = nums s := by
  have h4 : (be (s.size : Int) 4).length = 4 := be_length _ _
  have hn : srcTN (textL s ++ r) = s.size := by
    unfold srcTN textL
    rw [List.append_assoc, List.take_left' h4, val_be]
    exact Int.emod_eq_of_lt (by omega) (by show (s.size : Int) < 4294967296; omega)
  have hlen : (textL s ++ r).length = 4 + s.size + r.length := by rw [List.length_append, textL_length]
  have he : srcTE (textL s ++ r) 0 300 = 0 := by
    unfold srcTE
    rw [hn, if_neg (by decide), if_neg (by omega), if_neg (by omega), if_neg (by omega)]
  refine ⟨he, ?_, ?_⟩
  · rw [srcTL, if_pos he, hn, Int.toNat_natCast, show 4 + s.size = (textL s).length from (textL_length s).symm, List.drop_left]
  · rw [srcTV, if_pos he, hn, Int.toNat_natCast]
    unfold textL
    rw [List.append_assoc, List.drop_left' h4, List.take_left' (nums_length s)]
theorem nums_take {s : ByteArray} {r : List Int} : srcRE (nums s ++ r) 0 s.size = 0 ∧ srcRL (nums s ++ r) 0 s.size = r ∧ srcRV (nums s ++ r) 0 s.size = nums s := by
  have hl := nums_length s
  have he : srcRE (nums s ++ r) 0 s.size = 0 := by
    unfold srcRE
    rw [if_neg (by decide), if_neg (by omega), if_neg (by rw [List.length_append]; omega)]
  refine ⟨he, ?_, ?_⟩
  · rw [srcRL, if_pos he, Int.toNat_natCast, ← hl, List.drop_left]
  · rw [srcRV, if_pos he, Int.toNat_natCast, ← hl, List.take_left]
theorem encL_drop {l : List Wd} {n : Nat} (h : n < l.length) : encL (l.drop n) = encW (l.getD n default) ++ encL (l.drop (n + 1)) := by
  have e : l.getD n default = l[n] := by simp [List.getD, h]
  rw [e, List.drop_eq_getElem_cons h]; rfl
theorem inV_at {l : List Wd} {n : Nat} (h : n < l.length) : (inV l)[n]? = some (.bool (inW (l.getD n default))) := by
  simp [inV, List.getD, h]
theorem owns_addr {w : World} {base : Nat} {e : TypeId} {a : Option Addr} {n cap : Nat} {xs : List Value} (h : w.ownsRow base e 1 (.slice a n cap) n xs) (hn : 0 < n) : ∃ g, a = some ⟨g, 0, none⟩ := by
  rcases h.2 with ⟨h1, h2⟩ | ⟨g, c, cur, h1, _⟩
  · omega
  · simp only [Value.slice.injEq] at h1; exact ⟨g, h1.1⟩

/-- while the words are taken: the source has rest left, the slice vi owns ins -/
structure St (B : Nat) (w0 w : World) (s g : Nat) (rest : List Int) (vi : Value) (ins : List Value) : Prop where
  src : Srce w s g rest 0
  own : w.ownsRow 0 4 1 vi ins.length ins
  sB : B ≤ s
  nes : vi.ownBlock ≠ some s
  below : Below B w0 w
theorem St.size {B : Nat} {w0 w : World} {s g : Nat} {rest : List Int} {vi : Value} {ins : List Value} (h : St B w0 w s g rest vi ins) : B ≤ w.heap.size := by
  have := h.src.lt; have := h.sB; omega
theorem St.quiet {B : Nat} {w0 w w1 : World} {s g : Nat} {rest : List Int} {vi : Value} {ins : List Value} (h : St B w0 w s g rest vi ins) (hm : Mod [] w w1) : St B w0 w1 s g rest vi ins :=
  ⟨h.src.mod hm (by simp) (by simp), hm.owns h.own (by simp), h.sB, h.nes, h.below.trans (hm.toBelow h.size (by simp))⟩
theorem St.takes {B : Nat} {w0 w w1 : World} {s g : Nat} {rest r1 : List Int} {vi : Value} {ins : List Value} (h : St B w0 w s g rest vi ins) (ht : Takes w s g r1 0 w1) : St B w0 w1 s g r1 vi ins :=
  ⟨ht.src, ht.mod.owns h.own (fun k hk hm => h.nes (by simp at hm; rw [← hm, hk])), h.sB, h.nes, h.below.trans (ht.mod.toBelow h.size (by intro x hx; simp at hx; subst hx; exact h.sB))⟩

set_option maxRecDepth 100000 in
set_option maxHeartbeats 4000000 in
theorem back_any (a : Option Addr) (cap n : Nat) (l : List Wd) (w : World) (hc : Words w a l) (hn : n = l.length) (hl : l.length ≤ 9223372036854775807) :
    Calls Try.prog 6 #[.slice a n cap] w fun e w' => e = .returned (.bool true) ∧ Below w.heap.size w w' := by
  subst hn
  have HC := Lib.hid hc
  clear hc
  go_enter Try.func6, Try.ntmps6
  go_wp2_with fail
  refine (awake_any w).mono ?_
  rintro e w1 ⟨rfl, hb1⟩
  have HB1 := Lib.hid hb1
  clear hb1
  go_wp2_with fail
  refine (some_any a cap _ l w1 (HC.out.old HB1.out) rfl hl).mono ?_
  rintro e w1' ⟨rfl, rfl⟩
  by_cases hs : someB l = true
  case neg =>
    have hs : someB l = false := by simpa using hs
    rw [hs]
    go_wp2_with fail
    go_ret
    exact ⟨rfl, HB1.out⟩
  rw [hs]
  obtain ⟨h60, h300⟩ := some_iff.1 hs
  have H300 := Lib.hid h300
  clear hs h300
  go_wp2_with fail
  refine (newSink_any w1).mono ?_
  rintro e w2 ⟨rfl, hw2⟩
  have hsn := Snk.new w1
  rw [← hw2] at hsn
  have hm2 : Mod [] w1 w2 := by rw [hw2]; exact (Mod.refl [] w1).alloc _
  have hs1 : w.heap.size ≤ w1.heap.size := HB1.out.size
  have h2 : TwoV w.heap.size w w2 w1.heap.size (.slice none 0 0) [] 4 (.slice none 0 0) [] :=
    ⟨hsn, World.ownsRow_nil _ _ _ _, hs1, by simp [Value.ownBlock], by simp [Value.ownBlock], by simp [Value.ownBlock], by simp [Value.ownBlock], HB1.out.trans (hm2.toBelow hs1 (by simp))⟩
  have H2 := Lib.hid h2
  clear hsn hm2 hw2 h2
  generalize w1.heap.size = s1 at *
  go_wp2_with fail
  go_loopw [4, 5] (fun va i wr => ∃ (n : Nat) (ao : Option Addr) (no co : Nat), n ≤ l.length ∧ i = .int .i64 n ∧ va = .slice ao no co ∧ BackRel l w.heap.size w s1 n (.slice ao no co) wr) (fun _ i _ => (l.length - intOf i).toNat)
  case atStart => exact ⟨0, none, 0, 0, by omega, rfl, rfl, _, H2.out⟩
  case round =>
    obtain ⟨n, ao, no, co, hn, rfl, rfl, hrel⟩ := hrel
    by_cases hlt : n < l.length
    · obtain ⟨vs, h2⟩ := hrel
      obtain ⟨b, o, rfl, c0, c1, c2, c3, c4⟩ := (HC.out.old (h2.below)).at hlt
      have hx300 := H300.out _ (getD_mem' hlt)
      have hok := HC.out.1 _ (getD_mem' hlt)
      have hinl : (inV (l.take n)).length ≤ 60 := by simp [inV]; omega
      have hacl : (encL (l.take n)).length ≤ 20000 := by
        have h1 := encL_len (l.take n) (fun y hy => H300.out y (List.mem_of_mem_take hy))
        have h2 : (l.take n).length ≤ 60 := by simp; omega
        omega
      have hend : ∀ (va : Value) (w9 : World) (vs9 : Value), TwoV w.heap.size w w9 s1 vs9 (encL (l.take n) ++ encW (l.getD n default)) 4 va (inV (l.take n) ++ [.bool (inW (l.getD n default))]) → BackRel l w.heap.size w s1 (n + 1) va w9 := fun va w9 vs9 h => back_end hlt h rfl rfl
      have hno : no = (inV (l.take n)).length := by
        obtain ⟨a9, cap9, e, _⟩ := owns_shape h2.own
        simp at e; exact e.2.1
      subst hno
      generalize encL (l.take n) = acc at *
      generalize inV (l.take n) = ins at *
      generalize l.getD n default = x at *
      have hbox := h2.box (.cells #[.int .i64 x.kind, .int .i64 x.k, .int .i64 x.n, .int .u64 x.v, .string x.s] 39)
      have h3 := h2.quiet ((Mod.refl [] wr).alloc (.cells #[.int .i64 x.kind, .int .i64 x.k, .int .i64 x.n, .int .u64 x.v, .string x.s] 39))
      obtain ⟨kd, k, m, v, st⟩ := x
      obtain ⟨_, _, q2, q3, q4, q5, q6, q7, q8⟩ := hok
      simp only at c0 c1 c2 c3 c4 q2 q3 q4 q5 q6 q7 q8 hx300 hbox h3
      have HB := Lib.hid hbox
      have H3 := Lib.hid h3
      have HEnd := Lib.hid hend
      clear h2 hbox h3 H2 hend
      generalize hwx : wr.alloc (.cells #[.int .i64 kd, .int .i64 k, .int .i64 m, .int .u64 v, .string st] 39) = wx at *
      have HWX := Lib.hid hwx
      clear hwx
      have hE : encW ⟨kd, k, m, v, st⟩ = if kd = 0 then putL v k else if kd = 1 then sinkIL m k else if kd = 2 then textL st else if kd = 3 then nums st else [] := rfl
      have hI : inW ⟨kd, k, m, v, st⟩ = if kd = 0 then holdsB v k else if kd = 1 then fitsB m k else true := rfl
      have HE := Lib.hid hE
      have HI := Lib.hid hI
      clear hE hI
      generalize encW ⟨kd, k, m, v, st⟩ = r at *
      generalize inW ⟨kd, k, m, v, st⟩ = hb at *
      by_cases k0 : kd = 0
      · subst k0
        have hE : putL v k = r := (HE.out.trans (if_pos rfl)).symm
        have hI : holdsB v k = hb := (HI.out.trans (if_pos rfl)).symm
        have hU := sinkU_any wx s1 vs acc H3.out.snk v k q6 q7 (by omega)
        rw [hE, hI] at hU
        have HU := Lib.hid hU
        clear hE hI hU
        go_wp2_with fail
        rw [HWX.out]
        clear c0 c1 c2 c3 c4
        generalize wr.heap.size = X at *
        obtain ⟨d0, d1, d2, d3, d4⟩ := five HB.out.cell
        refine HU.out.mono ?_
        rintro e w6 ⟨rfl, vs6, hp⟩
        have HT := Lib.hid (H3.out.puts hp)
        clear hp
        clear d0 d1 d2 d3 d4
        go_wp2_with (at_builtin; refine wpList_append1 _ rfl _ _ 56 56 rfl 4 (.bool false) 1 Try.underlying56 Try.infoBool rfl _ ins rfl (HT.out.quiet ((Mod.refl [] _).alloc _)).own _ 1 [.bool hb] rfl (Src.one Try.prog _ _ rfl 4 Try.underlying56) (by simp; omega) (by simp [maxLen]; omega) (ins ++ [.bool hb]) rfl ?_)
        intro va9 w9 hg
        obtain ⟨a9, cap9, rfl⟩ := hg.shape
        have hB9 := HEnd.out _ _ _ ((HT.out.quiet ((Mod.refl [] _).alloc _)).grew hg)
        clear hg
        generalize (ins ++ [Value.bool hb]).length = n9 at *
        go_wp2_with fail
        go_roundw
        case rel => exact ⟨n + 1, a9, n9, cap9, by omega, by go_num, rfl, hB9⟩
        case measure => simp [intOf]; omega
      by_cases k1 : kd = 1
      · subst k1
        have hE : sinkIL m k = r := (HE.out.trans ((if_neg k0).trans (if_pos rfl))).symm
        have hI : fitsB m k = hb := (HI.out.trans ((if_neg k0).trans (if_pos rfl))).symm
        have hU := sinkI_any wx s1 vs acc H3.out.snk m k q4 q5 (by omega)
        rw [hE, hI] at hU
        have HU := Lib.hid hU
        clear hE hI hU k0
        go_wp2_with fail
        rw [HWX.out]
        clear c0 c1 c2 c3 c4
        generalize wr.heap.size = X at *
        obtain ⟨d0, d1, d2, d3, d4⟩ := five HB.out.cell
        refine HU.out.mono ?_
        rintro e w6 ⟨rfl, vs6, hp⟩
        have HT := Lib.hid (H3.out.puts hp)
        clear hp
        clear d0 d1 d2 d3 d4
        go_wp2_with (at_builtin; refine wpList_append1 _ rfl _ _ 56 56 rfl 4 (.bool false) 1 Try.underlying56 Try.infoBool rfl _ ins rfl (HT.out.quiet ((Mod.refl [] _).alloc _)).own _ 1 [.bool hb] rfl (Src.one Try.prog _ _ rfl 4 Try.underlying56) (by simp; omega) (by simp [maxLen]; omega) (ins ++ [.bool hb]) rfl ?_)
        intro va9 w9 hg
        obtain ⟨a9, cap9, rfl⟩ := hg.shape
        have hB9 := HEnd.out _ _ _ ((HT.out.quiet ((Mod.refl [] _).alloc _)).grew hg)
        clear hg
        generalize (ins ++ [Value.bool hb]).length = n9 at *
        go_wp2_with fail
        go_roundw
        case rel => exact ⟨n + 1, a9, n9, cap9, by omega, by go_num, rfl, hB9⟩
        case measure => simp [intOf]; omega
      have hI : hb = true := HI.out.trans ((if_neg k0).trans (if_neg k1))
      subst hI
      by_cases k2 : kd = 2
      · subst k2
        have hE : textL st = r := (HE.out.trans ((if_neg k0).trans ((if_neg k1).trans (if_pos rfl)))).symm
        have hU := sinkText_any wx s1 vs acc H3.out.snk st (by omega) (by omega)
        rw [hE] at hU
        have HU := Lib.hid hU
        clear hE hU k0 k1
        go_wp2_with fail
        rw [HWX.out]
        clear c0 c1 c2 c3 c4
        generalize wr.heap.size = X at *
        obtain ⟨d0, d1, d2, d3, d4⟩ := five HB.out.cell
        refine HU.out.mono ?_
        rintro e w6 ⟨rfl, vs6, hp⟩
        have HT := Lib.hid (H3.out.puts hp)
        clear hp
        clear d0 d1 d2 d3 d4
        go_wp2_with (at_builtin; refine wpList_append1 _ rfl _ _ 56 56 rfl 4 (.bool false) 1 Try.underlying56 Try.infoBool rfl _ ins rfl (HT.out.quiet ((Mod.refl [] _).alloc _)).own _ 1 [.bool true] rfl (Src.one Try.prog _ _ rfl 4 Try.underlying56) (by simp; omega) (by simp [maxLen]; omega) (ins ++ [.bool true]) rfl ?_)
        intro va9 w9 hg
        obtain ⟨a9, cap9, rfl⟩ := hg.shape
        have hB9 := HEnd.out _ _ _ ((HT.out.quiet ((Mod.refl [] _).alloc _)).grew hg)
        clear hg
        generalize (ins ++ [Value.bool true]).length = n9 at *
        go_wp2_with fail
        go_roundw
        case rel => exact ⟨n + 1, a9, n9, cap9, by omega, by go_num, rfl, hB9⟩
        case measure => simp [intOf]; omega
      by_cases k3 : kd = 3
      · subst k3
        have hE : nums st = r := (HE.out.trans ((if_neg k0).trans ((if_neg k1).trans ((if_neg k2).trans (if_pos rfl))))).symm
        obtain ⟨a5, cap5, w5, hcv, c85, hm5, _, _, _⟩ := conv_bytes (P := Try.prog) wx 9 23 5 st Try.underlying9 Try.underlying23 Try.underlying5
        have hnl := (nums_length st).symm
        rw [hE] at c85 hnl
        have hU := raw_any w5 s1 vs acc (H3.out.quiet hm5).snk a5 cap5 _ r c85 hnl (by omega)
        have HU := Lib.hid hU
        have HM5 := Lib.hid hm5
        have HCV := Lib.hid hcv
        clear hE hU k0 k1 k2 hcv c85 hnl hm5
        go_wp2_with fail
        rw [HWX.out]
        clear c0 c1 c2 c3 c4
        generalize wr.heap.size = X at *
        obtain ⟨d0, d1, d2, d3, d4⟩ := five HB.out.cell
        rw [HCV.out]
        go_wp2_with fail
        refine HU.out.mono ?_
        rintro e w6 ⟨rfl, vs6, hp⟩
        have HT := Lib.hid ((H3.out.quiet HM5.out).puts hp)
        clear hp
        clear d0 d1 d2 d3 d4
        go_wp2_with (at_builtin; refine wpList_append1 _ rfl _ _ 56 56 rfl 4 (.bool false) 1 Try.underlying56 Try.infoBool rfl _ ins rfl (HT.out.quiet ((Mod.refl [] _).alloc _)).own _ 1 [.bool true] rfl (Src.one Try.prog _ _ rfl 4 Try.underlying56) (by simp; omega) (by simp [maxLen]; omega) (ins ++ [.bool true]) rfl ?_)
        intro va9 w9 hg
        obtain ⟨a9, cap9, rfl⟩ := hg.shape
        have hB9 := HEnd.out _ _ _ ((HT.out.quiet ((Mod.refl [] _).alloc _)).grew hg)
        clear hg
        generalize (ins ++ [Value.bool true]).length = n9 at *
        go_wp2_with fail
        go_roundw
        case rel => exact ⟨n + 1, a9, n9, cap9, by omega, by go_num, rfl, hB9⟩
        case measure => simp [intOf]; omega
      have hE : r = [] := HE.out.trans ((if_neg k0).trans ((if_neg k1).trans ((if_neg k2).trans (if_neg k3))))
      have hT := H3.out
      rw [show acc = acc ++ r by rw [hE, List.append_nil]] at hT
      have HT := Lib.hid hT
      have g0 : (kd == 0) = false := by simpa using k0
      have g1 : (kd == 1) = false := by simpa using k1
      have g2 : (kd == 2) = false := by simpa using k2
      have g3 : (kd == 3) = false := by simpa using k3
      clear k0 k1 k2 k3 hE hT
      go_upto_region 21 with (fail)
      rw [HWX.out]
      clear c0 c1 c2 c3 c4
      generalize wr.heap.size = X at *
      go_wp2_with (at_builtin; refine wpList_append1 _ rfl _ _ 56 56 rfl 4 (.bool false) 1 Try.underlying56 Try.infoBool rfl _ ins rfl (HT.out.quiet ((Mod.refl [] _).alloc _)).own _ 1 [.bool true] rfl (Src.one Try.prog _ _ rfl 4 Try.underlying56) (by simp; omega) (by simp [maxLen]; omega) (ins ++ [.bool true]) rfl ?_)
      intro va9 w9 hg
      obtain ⟨a9, cap9, rfl⟩ := hg.shape
      have hB9 := HEnd.out _ _ _ ((HT.out.quiet ((Mod.refl [] _).alloc _)).grew hg)
      clear hg
      generalize (ins ++ [Value.bool true]).length = n9 at *
      go_wp2_with fail
      go_roundw
      case rel => exact ⟨n + 1, a9, n9, cap9, by omega, by go_num, rfl, hB9⟩
      case measure => simp [intOf]; omega
    · obtain ⟨vs, h2⟩ := hrel
      obtain rfl : n = l.length := by omega
      rw [List.take_length] at h2
      have hacl : (encL l).length ≤ 20000 := by
        have h1 := encL_len l H300.out
        omega
      have hno : no = (inV l).length := by
        obtain ⟨a9, cap9, e, _⟩ := owns_shape h2.own
        simp at e; exact e.2.1
      subst hno
      have H3 := Lib.hid h2
      clear h2 H2
      go_wp2_with fail
      refine (sinkBytes_any wr s1 vs _ H3.out.snk (by omega)).mono ?_
      rintro e w4 ⟨a4, cap4, rfl, hown4, hbl4⟩
      have H4 := Lib.hid (H3.out.quiet (Mod.ofBelow hbl4))
      have HO4 := Lib.hid hown4
      have C4 := Lib.hid (Cells8.ofOwns H3.out.snk.bytes hown4)
      have hsz4 : w.heap.size ≤ wr.heap.size := H3.out.size
      clear hown4 hbl4
      go_wp2_with fail
      refine (newSource_any w4 a4 cap4 _ (encL l) C4.out rfl (by omega)).mono ?_
      rintro e w5 ⟨s5, g5, rfl, hsrc, hs5, hg5, hm5⟩
      have HS5 := Lib.hid hsrc
      have H5 := Lib.hid (H4.out.quiet hm5)
      have HO5 := Lib.hid (hm5.owns HO4.out (by simp))
      have hlt4 := fun k hk => (HO4.out.lt k hk)
      have HLT := Lib.hid hlt4
      clear hsrc hm5 hlt4
      have hx1 : ∀ k, (Value.slice a4 (encL l).length cap4).ownBlock = some k → w.heap.size ≤ k ∧ k ≠ s5 ∧ k ≠ g5 ∧ (Value.slice ao (inV l).length co).ownBlock ≠ some k := by
        intro k hk
        obtain ⟨h1, h2⟩ := HLT.out k hk
        refine ⟨by omega, by omega, by omega, fun e => ?_⟩
        have := H3.out.lt k e; omega
      have hst : St w.heap.size w w5 s5 g5 (encL l) (.slice ao (inV l).length co) (inV l) :=
        ⟨HS5.out, H5.out.own, by have := H4.out.size; omega, fun e => by have := H4.out.lt _ e; omega, H5.out.below⟩
      have HX1 := Lib.hid hx1
      have HST := Lib.hid hst
      have hinl : (inV l).length ≤ 60 := by simp [inV]; omega
      have hO := owns_rebase HO5.out (B := 0) (fun _ _ => by omega)
      have HO := Lib.hid hO
      have HL := Lib.hid (fun (n : Nat) (h : n < l.length) => encL_drop h)
      have HI := Lib.hid (fun (n : Nat) (h : n < l.length) => inV_at h)
      have HD0 : Hid (encL (l.drop 0) = encL l) := by simp [Hid]
      have HDE : Hid (encL (l.drop l.length) = []) := by simp [Hid, encL]
      clear HO5 HO4 HLT H5 H4 H3 HS5 C4 hst hx1 hO hsz4 hs5 hg5
      generalize hLL : (encL l).length = L at *
      clear hLL
      have hil : (inV l).length = l.length := by simp [inV]
      have HIL := Lib.hid hil
      clear hil
      generalize inV l = ins at *
      go_wp2_with fail
      go_loopw [10] (fun i wr => ∃ n : Nat, n ≤ L ∧ i = .int .i64 n ∧ (∃ xs : List Value, wr.ownsRow 0 5 1 (.slice a4 L cap4) L xs) ∧ St w.heap.size w wr s5 g5 (encL l) (.slice ao ins.length co) ins) (fun i _ => (L - intOf i).toNat)
      case atStart => exact ⟨0, by omega, rfl, ⟨_, HO.out⟩, HST.out⟩
      case round =>
        obtain ⟨n2, hn2, rfl, ⟨xs, hxs⟩, hst⟩ := hrel
        by_cases hlt2 : n2 < L
        · obtain ⟨gb, rfl⟩ := owns_addr hxs (by omega)
          have hcell := hxs.cellAt n2 (by omega)
          have hfr := hxs.frozenAt n2
          have hxl : xs.length = L := by simpa using hxs.1
          rw [List.getElem?_eq_getElem (by omega)] at hcell
          generalize xs[n2] = old at hcell
          obtain ⟨x1, x2, x3, x4⟩ := HX1.out gb rfl
          have hst2 : St w.heap.size w (wr.setCell ⟨gb, n2, none⟩ (.int .u8 0)) s5 g5 (encL l) (.slice ao ins.length co) ins := by
            have hm : Mod [gb] wr (wr.setCell ⟨gb, n2, none⟩ (.int .u8 0)) := Mod.set wr gb n2 _
            exact ⟨hst.src.mod hm (by simp; omega) (by simp; omega), hm.owns hst.own (fun k hk hmem => x4 (by simp at hmem; rw [← hmem, hk])), hst.sB, hst.nes, hst.below.trans (hm.toBelow hst.size (by intro y hy; simp at hy; omega))⟩
          have HS2 := Lib.hid hst2
          have HX2 := Lib.hid (hxs.stored n2 (.int .u8 0)).1
          clear hxs hst hst2 hxl HST HO
          go_wp2_with fail
          go_roundw
          case rel => exact ⟨n2 + 1, by omega, by go_num, ⟨_, HX2.out⟩, HS2.out⟩
          case measure => simp [intOf]; omega
        · have HS2 := Lib.hid hst
          clear hst hxs HST HO
          go_wp2_with fail
          go_loopw [11] (fun i wr => ∃ n : Nat, n ≤ l.length ∧ i = .int .i64 n ∧ St w.heap.size w wr s5 g5 (encL (l.drop n)) (.slice ao ins.length co) ins) (fun i _ => (l.length - intOf i).toNat)
          case atStart => exact ⟨0, by omega, rfl, by rw [HD0.out]; exact HS2.out⟩
          case round =>
            obtain ⟨n, hn, rfl, hst⟩ := hrel
            by_cases hlt3 : n < l.length
            · obtain ⟨b, o, rfl, c0, c1, c2, c3, c4⟩ := (HC.out.old (hst.below)).at hlt3
              obtain ⟨gi, rfl⟩ := owns_addr hst.own (by have := HIL.out; omega)
              have hin := (hst.own.cellAt n (by have := HIL.out; omega)).trans (HI.out n hlt3)
              have hinl : n < ins.length := by have := HIL.out; omega
              have hx300 := H300.out _ (getD_mem' hlt3)
              have hok := HC.out.1 _ (getD_mem' hlt3)
              have hdrop := HL.out n hlt3
              rw [hdrop] at hst
              have hgi : gi < wr.heap.size := World.block_lt_of_cell? wr _ hin
              clear HI hdrop
              generalize hre : encL (l.drop (n + 1)) = rest at *
              have HRest := Lib.hid hre
              clear hre
              generalize l.getD n default = x at *
              obtain ⟨kd, k, m, v, st⟩ := x
              obtain ⟨_, _, q2, q3, q4, q5, q6, q7, q8⟩ := hok
              simp only at c0 c1 c2 c3 c4 q2 q3 q4 q5 q6 q7 q8 hx300
              have hst3 := hst.quiet ((Mod.refl [] wr).alloc (.cells #[.int .i64 kd, .int .i64 k, .int .i64 m, .int .u64 v, .string st] 39))
              have hbox : (wr.alloc (.cells #[.int .i64 kd, .int .i64 k, .int .i64 m, .int .u64 v, .string st] 39)).heap[wr.heap.size]? = some (.cells #[.int .i64 kd, .int .i64 k, .int .i64 m, .int .u64 v, .string st] 39) := heap_alloc_new wr _
              have hXs : wr.heap.size ≠ s5 := by have := hst.src.lt; omega
              have HSX := Lib.hid hst3
              have HBX := Lib.hid hbox
              have hE : encW ⟨kd, k, m, v, st⟩ = if kd = 0 then putL v k else if kd = 1 then sinkIL m k else if kd = 2 then textL st else if kd = 3 then nums st else [] := rfl
              have hI : inW ⟨kd, k, m, v, st⟩ = if kd = 0 then holdsB v k else if kd = 1 then fitsB m k else true := rfl
              have HE := Lib.hid hE
              have HIn := Lib.hid hI
              clear hst hst3 hbox hE hI
              have hrl : (encW ⟨kd, k, m, v, st⟩).length ≤ 400 := by have := encW_len ⟨kd, k, m, v, st⟩ hx300; omega
              have hrestl : rest.length ≤ 20000 := by
                have h1 := encL_len (l.drop (n + 1)) (fun y hy => H300.out y (List.mem_of_mem_drop hy))
                have h2 : (l.drop (n + 1)).length ≤ 60 := by simp; omega
                rw [HRest.out] at h1
                omega
              generalize encW ⟨kd, k, m, v, st⟩ = r at *
              generalize hhb : inW ⟨kd, k, m, v, st⟩ = hb at *
              clear hhb
              cases hb
              · have hr0 : r = [] := by
                  have h1 := HE.out
                  have h2 := HIn.out
                  by_cases k0 : kd = 0
                  · rw [if_pos k0] at h1 h2
                    rw [h1, putL, if_neg (by rw [← h2]; decide)]
                  · rw [if_neg k0] at h1 h2
                    by_cases k1 : kd = 1
                    · rw [if_pos k1] at h1 h2
                      rw [h1, sinkIL, if_neg (by rw [← h2]; decide)]
                    · rw [if_neg k1] at h2; cases h2
                have hSX := HSX.out
                rw [hr0, List.nil_append] at hSX
                have HS9 := Lib.hid hSX
                clear hr0 hSX
                go_wp2_with fail
                go_roundw
                case rel => exact ⟨n + 1, by omega, by go_num, by rw [HRest.out]; exact HS9.out⟩
                case measure => simp [intOf]; omega
              generalize hwx : wr.alloc (.cells #[.int .i64 kd, .int .i64 k, .int .i64 m, .int .u64 v, .string st] 39) = wx at *
              have HWX := Lib.hid hwx
              clear hwx
              by_cases k0 : kd = 0
              · subst k0
                have hE : putL v k = r := (HE.out.trans (if_pos rfl)).symm
                have hI : holdsB v k = true := (HIn.out.trans (if_pos rfl)).symm
                obtain ⟨t1, t2, t3⟩ := putL_take (r := rest) q6 hI
                rw [hE] at t1 t2 t3
                have hU := fun (w' : World) (h : Srce w' s5 g5 (r ++ rest) 0) => srcU_any w' s5 g5 (r ++ rest) 0 k h (by rw [List.length_append]; omega)
                rw [t1, t2, t3] at hU
                have HU := Lib.hid hU
                clear hE hI t1 t2 t3 hU
                go_upto_region 33 with (fail)
                rw [HWX.out]
                clear c0 c1 c2 c3 c4
                generalize wr.heap.size = X at *
                obtain ⟨d0, d1, d2, d3, d4⟩ := five HBX.out
                go_wp2_with fail
                obtain ⟨f0, f1, f2, f3, f4⟩ := five (((Mod.refl [] wx).drew).row HBX.out (by simp))
                have HSD := Lib.hid (HSX.out.quiet ((Mod.refl [] wx).drew))
                go_region_with (go_at_call 30; refine (HU.out _ HSD.out.src).mono ?_; rintro e w8 ⟨rfl, ht⟩; have HS8 := Lib.hid (HSD.out.takes ht); obtain ⟨e0, e1, e2, e3, e4⟩ := five (ht.mod.row (((Mod.refl [] wx).drew).row HBX.out (by simp)) (by simpa using hXs)); clear ht)
                all_goals
                  clear d0 d1 d2 d3 d4 f0 f1 f2 f3 f4 e0 e1 e2 e3 e4
                  go_wp2_with fail
                  go_roundw
                  case rel => exact ⟨n + 1, by omega, by go_num, by rw [HRest.out]; exact HS8.out⟩
                  case measure => simp [intOf]; omega
              by_cases k1 : kd = 1
              · subst k1
                have hE : sinkIL m k = r := (HE.out.trans ((if_neg k0).trans (if_pos rfl))).symm
                have hI : fitsB m k = true := (HIn.out.trans ((if_neg k0).trans (if_pos rfl))).symm
                obtain ⟨t1, t2, t3⟩ := sinkIL_take (r := rest) hI
                rw [hE] at t1 t2 t3
                have hU := fun (w' : World) (h : Srce w' s5 g5 (r ++ rest) 0) => srcI_any w' s5 g5 (r ++ rest) 0 k h (by rw [List.length_append]; omega)
                rw [t1, t2, t3] at hU
                have HU := Lib.hid hU
                clear hE hI t1 t2 t3 hU k0
                go_upto_region 33 with (fail)
                rw [HWX.out]
                clear c0 c1 c2 c3 c4
                generalize wr.heap.size = X at *
                obtain ⟨d0, d1, d2, d3, d4⟩ := five HBX.out
                go_wp2_with fail
                obtain ⟨f0, f1, f2, f3, f4⟩ := five (((Mod.refl [] wx).drew).row HBX.out (by simp))
                have HSD := Lib.hid (HSX.out.quiet ((Mod.refl [] wx).drew))
                go_region_with (go_at_call 31; refine (HU.out _ HSD.out.src).mono ?_; rintro e w8 ⟨rfl, ht⟩; have HS8 := Lib.hid (HSD.out.takes ht); obtain ⟨e0, e1, e2, e3, e4⟩ := five (ht.mod.row (((Mod.refl [] wx).drew).row HBX.out (by simp)) (by simpa using hXs)); clear ht)
                all_goals
                  clear d0 d1 d2 d3 d4 f0 f1 f2 f3 f4 e0 e1 e2 e3 e4
                  go_wp2_with fail
                  go_roundw
                  case rel => exact ⟨n + 1, by omega, by go_num, by rw [HRest.out]; exact HS8.out⟩
                  case measure => simp [intOf]; omega
              by_cases k2 : kd = 2
              · subst k2
                have hE : textL st = r := (HE.out.trans ((if_neg k0).trans ((if_neg k1).trans (if_pos rfl)))).symm
                obtain ⟨t1, t2, t3⟩ := textL_take (r := rest) hx300
                rw [hE] at t1 t2 t3
                have hU := fun (w' : World) (h : Srce w' s5 g5 (r ++ rest) 0) => srcText_any w' s5 g5 (r ++ rest) 0 300 h (by rw [List.length_append]; omega)
                rw [t1, t2, t3, strOfNums_nums] at hU
                have HU := Lib.hid hU
                clear hE t1 t2 t3 hU k0 k1
                go_upto_region 33 with (fail)
                rw [HWX.out]
                clear c0 c1 c2 c3 c4
                generalize wr.heap.size = X at *
                obtain ⟨d0, d1, d2, d3, d4⟩ := five HBX.out
                go_wp2_with fail
                obtain ⟨f0, f1, f2, f3, f4⟩ := five (((Mod.refl [] wx).drew).row HBX.out (by simp))
                have HSD := Lib.hid (HSX.out.quiet ((Mod.refl [] wx).drew))
                go_region_with (go_at_call 32; refine (HU.out _ HSD.out.src).mono ?_; rintro e w8 ⟨rfl, ht⟩; have HS8 := Lib.hid (HSD.out.takes ht); obtain ⟨e0, e1, e2, e3, e4⟩ := five (ht.mod.row (((Mod.refl [] wx).drew).row HBX.out (by simp)) (by simpa using hXs)); clear ht)
                all_goals
                  clear d0 d1 d2 d3 d4 f0 f1 f2 f3 f4 e0 e1 e2 e3 e4
                  go_wp2_with fail
                  go_roundw
                  case rel => exact ⟨n + 1, by omega, by go_num, by rw [HRest.out]; exact HS8.out⟩
                  case measure => simp [intOf]; omega
              by_cases k3 : kd = 3
              · subst k3
                have hE : nums st = r := (HE.out.trans ((if_neg k0).trans ((if_neg k1).trans ((if_neg k2).trans (if_pos rfl))))).symm
                obtain ⟨t1, t2, t3⟩ := nums_take (s := st) (r := rest)
                have hstr : strOfNums r = st := by rw [← hE, strOfNums_nums]
                have hrb : Bytes r := by rw [← hE]; exact nums_bytes st
                rw [hE] at t1 t2 t3
                have hU := fun (w' : World) (h : Srce w' s5 g5 (r ++ rest) 0) => srcRaw_any w' s5 g5 (r ++ rest) 0 st.size h (by rw [List.length_append]; omega)
                rw [t1, t2, t3] at hU
                have HU := Lib.hid hU
                have HStr := Lib.hid hstr
                have HRb := Lib.hid hrb
                clear hE t1 t2 t3 hU k0 k1 k2 hstr hrb
                go_upto_region 33 with (fail)
                rw [HWX.out]
                clear c0 c1 c2 c3 c4
                generalize wr.heap.size = X at *
                obtain ⟨d0, d1, d2, d3, d4⟩ := five HBX.out
                go_wp2_with fail
                obtain ⟨f0, f1, f2, f3, f4⟩ := five (((Mod.refl [] wx).drew).row HBX.out (by simp))
                have HSD := Lib.hid (HSX.out.quiet ((Mod.refl [] wx).drew))
                go_region_with (go_at_call 33; refine (HU.out _ HSD.out.src).mono ?_; rintro e w8 ⟨a8, cap8, rfl, hown8, ht⟩; have F8 := run_str (P := Try.prog) (Cells8.ofOwns HRb.out hown8) 23 9 5 r.length cap8 Try.underlying23 Try.underlying5 Try.underlying9 rfl; rw [HStr.out] at F8; clear hown8; have HS8 := Lib.hid (HSD.out.takes ht); obtain ⟨e0, e1, e2, e3, e4⟩ := five (ht.mod.row (((Mod.refl [] wx).drew).row HBX.out (by simp)) (by simpa using hXs)); clear ht)
                all_goals
                  clear d0 d1 d2 d3 d4 f0 f1 f2 f3 f4 e0 e1 e2 e3 e4
                  go_wp2_with fail
                  go_roundw
                  case rel => exact ⟨n + 1, by omega, by go_num, by rw [HRest.out]; exact HS8.out⟩
                  case measure => simp [intOf]; omega
              have hE : r = [] := HE.out.trans ((if_neg k0).trans ((if_neg k1).trans ((if_neg k2).trans (if_neg k3))))
              have hSX := HSX.out
              rw [hE, List.nil_append] at hSX
              have HS9 := Lib.hid hSX
              have g0 : (kd == 0) = false := by simpa using k0
              have g1 : (kd == 1) = false := by simpa using k1
              have g2 : (kd == 2) = false := by simpa using k2
              have g3 : (kd == 3) = false := by simpa using k3
              clear k0 k1 k2 k3 hE hSX
              go_upto_region 33 with (fail)
              rw [HWX.out]
              clear c0 c1 c2 c3 c4
              generalize wr.heap.size = X at *
              obtain ⟨d0, d1, d2, d3, d4⟩ := five HBX.out
              go_wp2_with fail
              go_roundw
              case rel => exact ⟨n + 1, by omega, by go_num, by rw [HRest.out]; exact HS9.out⟩
              case measure => simp [intOf]; omega
            · obtain rfl : n = l.length := by omega
              rw [HDE.out] at hst
              have HS9 := Lib.hid hst
              have hD := done_any wr s5 g5 [] 0 hst.src
              rw [show doneE [] 0 = 0 by decide] at hD
              have HD := Lib.hid hD
              clear hst hD
              go_wp2_with fail
              refine HD.out.mono ?_
              rintro e w9 ⟨rfl, rfl⟩
              go_wp2_with fail
              go_ret
              exact ⟨rfl, HS9.out.below⟩
end Go.Proofs.Ytdgghfmhnidegaa
