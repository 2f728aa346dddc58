/- OctetSources: whatever is taken of any bytes, word by word, each answer and each error is the document's; the first error stays: for every input, no condition. -/
import Derived.Test.YtdgghfmhnidegaaMem2
import Derived.Deep.LoopGhost
import Derived.Deep.DeepCutAuto
import Derived.Deep.CutBlock
namespace Go.Proofs.Ytdgghfmhnidegaa
open Go.ChangeShapes Go.WideShapes Go.ChangeAt Go.RowKit
set_option linter.unusedVariables false
set_option linter.unusedSimpArgs false

/-- what taking a word of what is left answers, where no error stands yet -/
def wE (x : Wd) (rest : List Int) : Int := if x.kind = 0 ∨ x.kind = 1 then srcUE rest 0 x.k else if x.kind = 2 then srcTE rest 0 x.n else if x.kind = 3 then srcRE rest 0 x.n else 0
def wN (x : Wd) (rest : List Int) : Int := if wE x rest ≠ 0 then 0 else if x.kind = 0 ∨ x.kind = 1 then x.k else if x.kind = 2 then 4 + srcTN rest else if x.kind = 3 then x.n else 0
def wV (x : Wd) (rest : List Int) : Int := if x.kind = 0 ∨ x.kind = 1 then srcUV rest 0 x.k else 0
def wT (x : Wd) (rest : List Int) : List Int := if x.kind = 2 then srcTV rest 0 x.n else if x.kind = 3 then srcRV rest 0 x.n else []

/-- the source while words are taken -/
structure SS (B : Nat) (w0 w : World) (s g : Nat) (rest : List Int) (er : Int) : Prop where
  src : Srce w s g rest er
  sB : B ≤ s
  below : Below B w0 w
theorem SS.size {B : Nat} {w0 w : World} {s g : Nat} {rest : List Int} {er : Int} (h : SS B w0 w s g rest er) : B ≤ w.heap.size := by
  have := h.src.lt; have := h.sB; omega
theorem SS.quiet {B : Nat} {w0 w w1 : World} {s g : Nat} {rest : List Int} {er : Int} (h : SS B w0 w s g rest er) (hm : Mod [] w w1) : SS B w0 w1 s g rest er :=
  ⟨h.src.mod hm (by simp) (by simp), h.sB, h.below.trans (hm.toBelow h.size (by simp))⟩
theorem SS.takes {B : Nat} {w0 w w1 : World} {s g : Nat} {rest r1 : List Int} {er e1 : Int} (h : SS B w0 w s g rest er) (ht : Takes w s g r1 e1 w1) : SS B w0 w1 s g r1 e1 :=
  ⟨ht.src, h.sB, h.below.trans (ht.mod.toBelow h.size (by intro x hx; simp at hx; subst hx; exact h.sB))⟩
theorem owns_addr {w : World} {base : Nat} {e : TypeId} {a : Option Addr} {n cap : Nat} {xs : List Value} (h : w.ownsRow base e 1 (.slice a n cap) n xs) (hn : 0 < n) : ∃ g, a = some ⟨g, 0, none⟩ := by
  rcases h.2 with ⟨h1, h2⟩ | ⟨g, c, cur, h1, _⟩
  · omega
  · simp only [Value.slice.injEq] at h1; exact ⟨g, h1.1⟩

theorem getB_drop {lb : List Int} {at_ : Nat} {k : Int} (hat : at_ ≤ lb.length) (hs : sizedB k = true) (h : ¬ ((lb.drop at_).length : Int) < k) : getB lb at_ k = true ∧ getR lb at_ k = val ((lb.drop at_).take k.toNat) := by
  simp only [List.length_drop] at h
  have h1 : getB lb at_ k = true := by simp [getB, hs]; omega
  exact ⟨h1, by rw [getR, if_pos h1, getV, Int.toNat_natCast]⟩
theorem getB_drop_no {lb : List Int} {at_ : Nat} {k : Int} (hat : at_ ≤ lb.length) (h : ((lb.drop at_).length : Int) < k) : getB lb at_ k = false ∧ getR lb at_ k = 0 := by
  simp only [List.length_drop] at h
  have h1 : getB lb at_ k = false := by simp [getB]; omega
  exact ⟨h1, by rw [getR, if_neg (by rw [h1]; decide)]⟩
theorem vint {k : IntKind} {a b : Int} (h : a = b) : Value.int k a = Value.int k b := by rw [h]
theorem vstr {a b : ByteArray} (h : a = b) : Value.string a = Value.string b := by rw [h]
theorem and4 {A B C D : Prop} {w : World} (h : A ∧ B ∧ C ∧ D) : A ∧ B ∧ C ∧ D ∧ w = w := ⟨h.1, h.2.1, h.2.2.1, h.2.2.2, rfl⟩
theorem cells_drop {w : World} {a : Option Addr} {l : List Int} (h : Cells8 w a l) (n : Nat) : Cells8 w (a.map (fun x => x.add n)) (l.drop n) := by
  rcases h.2 with rfl | ⟨b, o, rfl, hc⟩
  · rw [List.drop_nil]; exact Cells8.nil _ _
  · have h2 := Cells8.drop ⟨h.1, .inr ⟨b, o, rfl, hc⟩⟩ n
    have h3 : (Option.map (fun x : Addr => x.add n) (some ⟨b, o, none⟩)) = some ⟨b, o + n, none⟩ := by simp [Addr.add]
    rw [h3]; exact h2
theorem str_nil : (ByteArray.mk #[]) = strOfNums [] := rfl

theorem wN_bound (x : Wd) (rest : List Int) (hb : Bytes rest) : 0 ≤ wN x rest ∧ wN x rest ≤ rest.length := by
  unfold wN
  by_cases h : wE x rest = 0
  · rw [if_neg (by omega)]
    unfold wE at h
    by_cases h01 : x.kind = 0 ∨ x.kind = 1
    · rw [if_pos h01] at h ⊢
      unfold srcUE at h
      by_cases hs : sizedB x.k = true
      · have := sized_iff.1 hs
        by_cases hl : (rest.length : Int) < x.k
        · simp [hs, hl] at h
        · omega
      · have hs : sizedB x.k = false := by simpa using hs
        simp [hs] at h
    · rw [if_neg h01] at h ⊢
      by_cases h2 : x.kind = 2
      · rw [if_pos h2] at h ⊢
        have hn := (srcTN_bound rest hb).1
        unfold srcTE at h
        by_cases c1 : rest.length < 4
        · simp [c1] at h
        · by_cases c2 : x.n < srcTN rest
          · simp [c1, c2] at h
          · by_cases c3 : (rest.length : Int) < 4 + srcTN rest
            · simp [c1, c2, c3] at h
            · omega
      · rw [if_neg h2] at h ⊢
        by_cases h3 : x.kind = 3
        · rw [if_pos h3] at h ⊢
          unfold srcRE at h
          by_cases c1 : x.n < 0
          · simp [c1] at h
          · by_cases c2 : (rest.length : Int) < x.n
            · simp [c1, c2] at h
            · omega
        · rw [if_neg h3]; omega
  · rw [if_pos h]; omega

/-- what the words' round leaves, whatever error stood -/
def zE (x : Wd) (rest : List Int) (er : Int) : Int := if er ≠ 0 then er else wE x rest
def zN (x : Wd) (rest : List Int) (er : Int) : Int := if er ≠ 0 then 0 else wN x rest
def zV (x : Wd) (rest : List Int) (er : Int) : Int := if er ≠ 0 then 0 else wV x rest
def zT (x : Wd) (rest : List Int) (er : Int) : List Int := if er ≠ 0 then [] else wT x rest

theorem step01 (x : Wd) (rest : List Int) (er : Int) (h : x.kind = 0 ∨ x.kind = 1) : srcUV rest er x.k = zV x rest er ∧ srcUE rest er x.k = zE x rest er ∧ srcUL rest er x.k = rest.drop (zN x rest er).toNat := by
  by_cases he : er = 0
  · subst he
    have e1 : wE x rest = srcUE rest 0 x.k := if_pos h
    simp only [zV, zE, zN, wV, wN, e1, if_pos h, ne_eq, not_true_eq_false, if_false, true_and]
    unfold srcUL
    by_cases hu : srcUE rest 0 x.k = 0 <;> simp [hu]
  · have : srcUE rest er x.k = er := by simp [srcUE, he]
    simp [zV, zE, zN, he, this, srcUV, srcUL]
theorem step2 (x : Wd) (rest : List Int) (er : Int) (hb : Bytes rest) (h : x.kind = 2) : srcTV rest er x.n = zT x rest er ∧ srcTE rest er x.n = zE x rest er ∧ srcTL rest er x.n = rest.drop (zN x rest er).toNat := by
  have h01 : ¬ (x.kind = 0 ∨ x.kind = 1) := by omega
  by_cases he : er = 0
  · subst he
    have hn := (srcTN_bound rest hb).1
    have e1 : wE x rest = srcTE rest 0 x.n := by unfold wE; rw [if_neg h01, if_pos h]
    have e2 : (4 + srcTN rest).toNat = 4 + (srcTN rest).toNat := by omega
    simp only [zT, zE, zN, wT, wN, e1, if_pos h, if_neg h01, ne_eq, not_true_eq_false, if_false, true_and]
    unfold srcTL
    by_cases hu : srcTE rest 0 x.n = 0 <;> simp [hu, e2]
  · have : srcTE rest er x.n = er := by simp [srcTE, he]
    simp [zT, zE, zN, he, this, srcTV, srcTL]
theorem step3 (x : Wd) (rest : List Int) (er : Int) (h : x.kind = 3) : srcRV rest er x.n = zT x rest er ∧ srcRE rest er x.n = zE x rest er ∧ srcRL rest er x.n = rest.drop (zN x rest er).toNat := by
  have h01 : ¬ (x.kind = 0 ∨ x.kind = 1) := by omega
  have h2 : ¬ x.kind = 2 := by omega
  by_cases he : er = 0
  · subst he
    have e1 : wE x rest = srcRE rest 0 x.n := by unfold wE; rw [if_neg h01, if_neg h2, if_pos h]
    simp only [zT, zE, zN, wT, wN, e1, if_pos h, if_neg h2, if_neg h01, ne_eq, not_true_eq_false, if_false, true_and]
    unfold srcRL
    by_cases hu : srcRE rest 0 x.n = 0 <;> simp [hu]
  · have : srcRE rest er x.n = er := by simp [srcRE, he]
    simp [zT, zE, zN, he, this, srcRV, srcRL]
theorem stepO (x : Wd) (rest : List Int) (er : Int) (h0 : ¬ x.kind = 0) (h1 : ¬ x.kind = 1) (h2 : ¬ x.kind = 2) (h3 : ¬ x.kind = 3) : zE x rest er = er ∧ zN x rest er = 0 := by
  have h01 : ¬ (x.kind = 0 ∨ x.kind = 1) := by omega
  by_cases he : er = 0
  · subst he
    have e1 : wE x rest = 0 := by unfold wE; rw [if_neg h01, if_neg h2, if_neg h3]
    simp [zE, zN, e1, wN, h01, h2, h3]
  · simp [zE, zN, he]
theorem zN_bound (x : Wd) (rest : List Int) (er : Int) (hb : Bytes rest) : 0 ≤ zN x rest er ∧ zN x rest er ≤ rest.length := by
  have := wN_bound x rest hb
  unfold zN
  by_cases he : er = 0 <;> simp [he] <;> omega
theorem z_if (x : Wd) (rest : List Int) (er : Int) : (er = 0 → wE x rest = zE x rest er) ∧ (er ≠ 0 → zE x rest er = er ∧ zN x rest er = 0) := by
  constructor
  · intro h; simp [zE, h]
  · intro h; simp [zE, zN, h]
theorem z_zero (x : Wd) (rest : List Int) : zN x rest 0 = wN x rest ∧ zV x rest 0 = wV x rest ∧ zT x rest 0 = wT x rest := by simp [zN, zV, zT]
theorem z_ne (x : Wd) (rest : List Int) (er : Int) (h : ¬ er = 0) : zN x rest er = 0 ∧ zV x rest er = 0 ∧ zT x rest er = [] := by simp [zN, zV, zT, h]

set_option maxRecDepth 100000 in
set_option maxHeartbeats 40000000 in
theorem sources_any (ab : Option Addr) (capb nb : Nat) (lb : List Int) (a : Option Addr) (cap n : Nat) (l : List Wd) (w : World) (hcb : Cells8 w ab lb) (hnb : nb = lb.length) (hlb : lb.length ≤ 9223372036854775807) (hcapb : lb.length ≤ capb)
    (hc : Words w a l) (hn : n = l.length) (hl : l.length ≤ 9223372036854775807) :
    Calls Try.prog 5 #[.slice ab nb capb, .slice a n cap] w fun e w' => e = .returned (.bool true) ∧ Below w.heap.size w w' := by
  subst hn
  subst hnb
  have HC := Lib.hid hc
  have HCB := Lib.hid hcb
  clear hc hcb
  go_enter Try.func5, Try.ntmps5
  go_wp2_with fail
  refine (awake_any w).mono ?_
  rintro e w1 ⟨rfl, hb1⟩
  have HB1 := Lib.hid hb1
  clear hb1
  by_cases h300b : (300 : Int) < lb.length
  · go_wp2_with fail
    go_ret
    exact ⟨rfl, HB1.out⟩
  have hlb3 : lb.length ≤ 300 := by omega
  go_wp2_with fail
  refine (some_any a cap _ l w1 (HC.out.old HB1.out) rfl hl).mono ?_
  rintro e w1' ⟨rfl, rfl⟩
  by_cases hs : someB l = true
  case neg =>
    have hs : someB l = false := by simpa using hs
    rw [hs]
    go_wp2_with fail
    go_ret
    exact ⟨rfl, HB1.out⟩
  rw [hs]
  obtain ⟨h60, h300⟩ := some_iff.1 hs
  have H300 := Lib.hid h300
  clear hs h300
  have hO1 : (w1.alloc (.cells #[] 5)).ownsRow 0 5 1 (.slice (some ⟨w1.heap.size, 0, none⟩) 0 0) ([] : List Int).length (u8s []) := World.ownsRow_lit w1 #[] 0 (Nat.zero_le _) (Nat.zero_le _) rfl
  have hS1 : Src Try.prog 1 23 (.slice ab lb.length capb) lb.length (u8s lb) (w1.alloc (.cells #[] 5)) := Src.of8 ((HCB.out.old HB1.out).mod ((Mod.refl [] w1).alloc _) (by simp)) Try.underlying23 _ _ rfl
  go_wp2_with (at_builtin; refine wpList_append8 _ rfl _ _ 23 23 rfl 5 Try.underlying23 Try.info8 _ [] rfl hO1 _ _ lb rfl hS1 (by simp; omega) lb rfl ?_)
  intro v2 w2 hg
  obtain ⟨a2, cap2, rfl⟩ := hg.shape
  obtain ⟨hown2, hbl2⟩ := hg.since (B := w1.heap.size) (by simp) (by intro k hk; simp [Value.ownBlock] at hk; omega)
  have hbl2' : Below w1.heap.size w1 w2 := ((Below.refl _ _).alloc (Nat.le_refl _) _).trans hbl2
  have HO2 := Lib.hid hown2
  have HB2 := Lib.hid (HB1.out.trans (hbl2'.mono HB1.out.size))
  have C2 := Lib.hid (Cells8.ofOwns HCB.out.1 hown2)
  have hlt2 := fun k hk => hown2.lt k hk
  have HLT2 := Lib.hid hlt2
  have hsz1 : w.heap.size ≤ w1.heap.size := HB1.out.size
  clear hg hown2 hbl2 hbl2' hO1 hS1 hlt2
  go_wp2_with fail
  refine (newSource_any w2 a2 cap2 _ lb C2.out rfl (by omega)).mono ?_
  rintro e w5 ⟨s5, g5, rfl, hsrc, hs5, hg5, hm5⟩
  have hO5 := owns_rebase (hm5.owns HO2.out (by simp)) (B := 0) (fun _ _ => by omega)
  have HO5 := Lib.hid hO5
  have hss : SS w.heap.size w w5 s5 g5 lb 0 := ⟨hsrc, by have := HB2.out.size; omega, HB2.out.trans (hm5.toBelow HB2.out.size (by simp))⟩
  have HSS := Lib.hid hss
  have hx1 : ∀ k, (Value.slice a2 lb.length cap2).ownBlock = some k → w.heap.size ≤ k ∧ k ≠ s5 ∧ k ≠ g5 := by
    intro k hk
    obtain ⟨h1, h2⟩ := HLT2.out k hk
    exact ⟨by omega, by omega, by omega⟩
  have HX1 := Lib.hid hx1
  clear hsrc hm5 hss hO5 HO2 C2 HLT2 hs5 hg5 hx1
  go_wp2_with fail
  go_loopw [7] (fun i wr => ∃ n : Nat, n ≤ lb.length ∧ i = .int .i64 n ∧ (∃ ys : List Int, wr.ownsRow 0 5 1 (.slice a2 lb.length cap2) lb.length (u8s ys)) ∧ SS w.heap.size w wr s5 g5 lb 0) (fun i _ => (lb.length - intOf i).toNat)
  case atStart => exact ⟨0, by omega, rfl, ⟨_, HO5.out⟩, HSS.out⟩
  case round =>
    obtain ⟨n2, hn2, rfl, ⟨ys, hys⟩, hst⟩ := hrel
    by_cases hlt2 : n2 < lb.length
    · obtain ⟨gb, rfl⟩ := owns_addr hys (by omega)
      have hcell := hys.cellAt n2 (by omega)
      have hfr := hys.frozenAt n2
      have hyl : ys.length = lb.length := by simpa using hys.1
      rw [List.getElem?_eq_getElem (by simp; omega), List.getElem_map] at hcell
      generalize ys[n2] = y at hcell
      obtain ⟨x1, x2, x3⟩ := HX1.out gb rfl
      have hst2 : ∀ z : Int, SS w.heap.size w (wr.setCell ⟨gb, n2, none⟩ (.int .u8 z)) s5 g5 lb 0 := fun z => by
        have hm : Mod [gb] wr (wr.setCell ⟨gb, n2, none⟩ (.int .u8 z)) := Mod.set wr gb n2 _
        exact ⟨hst.src.mod hm (by simp; omega) (by simp; omega), hst.sB, hst.below.trans (hm.toBelow hst.size (by intro y hy; simp at hy; omega))⟩
      have hys2 : ∀ z : Int, (wr.setCell ⟨gb, n2, none⟩ (.int .u8 z)).ownsRow 0 5 1 (.slice (some ⟨gb, 0, none⟩) lb.length cap2) lb.length (u8s (ys.set n2 z)) := fun z => by
        rw [u8s_set]; exact (hys.stored n2 (.int .u8 z)).1
      have HS2 := Lib.hid hst2
      have HY2 := Lib.hid hys2
      clear hys hst hst2 hys2 hyl HSS HO5
      go_wp2_with fail
      go_roundw
      case rel => exact ⟨n2 + 1, by omega, by go_num, ⟨_, HY2.out _⟩, HS2.out _⟩
      case measure => simp [intOf]; omega
    · have HS2 := Lib.hid hst
      clear hst hys HSS HO5 HX1
      go_wp2_with fail
      go_loopw [8, 9, 10] (fun at_ er i wr => ∃ (n q : Nat) (e : Int), n ≤ l.length ∧ q ≤ lb.length ∧ at_ = .int .i64 q ∧ er = .int .i64 e ∧ i = .int .i64 n ∧ SS w.heap.size w wr s5 g5 (lb.drop q) e) (fun _ _ i _ => (l.length - intOf i).toNat)
      case atStart => exact ⟨0, 0, 0, by omega, by omega, rfl, rfl, rfl, by simpa using HS2.out⟩
      case round =>
        obtain ⟨n, q, er, hn, hq, rfl, rfl, rfl, hst⟩ := hrel
        clear HS2
        by_cases hlt3 : n < l.length
        · obtain ⟨b, o, rfl, c0, c1, c2, c3, c4⟩ := (HC.out.old (hst.below)).at hlt3
          have hx300 := H300.out _ (getD_mem' hlt3)
          have hok := HC.out.1 _ (getD_mem' hlt3)
          generalize l.getD n default = x at *
          obtain ⟨kd, k, m, v, st⟩ := x
          obtain ⟨_, _, q2, q3, q4, q5, q6, q7, q8⟩ := hok
          simp only at c0 c1 c2 c3 c4 q2 q3 q4 q5 q6 q7 q8 hx300
          have hst3 := hst.quiet ((Mod.refl [] wr).alloc (.cells #[.int .i64 kd, .int .i64 k, .int .i64 m, .int .u64 v, .string st] 39))
          have hbox : (wr.alloc (.cells #[.int .i64 kd, .int .i64 k, .int .i64 m, .int .u64 v, .string st] 39)).heap[wr.heap.size]? = some (.cells #[.int .i64 kd, .int .i64 k, .int .i64 m, .int .u64 v, .string st] 39) := heap_alloc_new wr _
          have hXs : wr.heap.size ≠ s5 := by have := hst.src.lt; omega
          have hcb := HCB.out.old hst3.below
          have HSX := Lib.hid hst3
          have HBX := Lib.hid hbox
          have HCX := Lib.hid hcb
          clear hst hst3 hbox hcb
          go_upto_block 4 with (fail)
          generalize hwx : wr.alloc (.cells #[.int .i64 kd, .int .i64 k, .int .i64 m, .int .u64 v, .string st] 39) = wx at *
          clear hwx c0 c1 c2 c3 c4
          generalize wr.heap.size = X at *
          obtain ⟨d0, d1, d2, d3, d4⟩ := five HBX.out
          have hrb : Bytes (lb.drop q) := HCB.out.1.drop q
          have hlen : (lb.drop q).length = lb.length - q := List.length_drop
          have HLen := Lib.hid hlen
          have HRb := Lib.hid hrb
          clear hlen hrb
          generalize hre : lb.drop q = rest at *
          have HRest := Lib.hid hre
          clear hre
          go_cut [12, 13, 14, 15] (fun s12 s13 s14 s15 wc => s12 = .int .i64 (wE ⟨kd, k, m, v, st⟩ rest) ∧ s13 = .int .i64 (wN ⟨kd, k, m, v, st⟩ rest) ∧ s14 = .int .u64 (wV ⟨kd, k, m, v, st⟩ rest) ∧ s15 = .string (strOfNums (wT ⟨kd, k, m, v, st⟩ rest)) ∧ wx = wc)
          case first =>
            as_aux_lemma =>
            by_cases k01 : kd = 0 ∨ kd = 1
            · have e1 : wE ⟨kd, k, m, v, st⟩ rest = srcUE rest 0 k := if_pos k01
              have e3 : wV ⟨kd, k, m, v, st⟩ rest = srcUV rest 0 k := if_pos k01
              have e2 : wN ⟨kd, k, m, v, st⟩ rest = if srcUE rest 0 k ≠ 0 then 0 else k := by unfold wN; rw [e1, if_pos k01]
              have e4 : wT ⟨kd, k, m, v, st⟩ rest = [] := by unfold wT; rw [if_neg (by simp; omega), if_neg (by simp; omega)]
              have E1 := Lib.hid e1
              have E2 := Lib.hid e2
              have E3 := Lib.hid e3
              have E4 := Lib.hid e4
              clear e1 e2 e3 e4
              have fin : ∀ (u n' v' : Int), srcUE rest 0 k = u → (if u ≠ 0 then 0 else k) = n' → (u ≠ 0 → v' = 0) → (u = 0 → v' = val (rest.take k.toNat)) →
                  Value.int .i64 u = .int .i64 (wE ⟨kd, k, m, v, st⟩ rest) ∧ Value.int .i64 n' = .int .i64 (wN ⟨kd, k, m, v, st⟩ rest) ∧ Value.int .u64 v' = .int .u64 (wV ⟨kd, k, m, v, st⟩ rest) ∧ Value.string ⟨#[]⟩ = .string (strOfNums (wT ⟨kd, k, m, v, st⟩ rest)) := by
                intro u n' v' h1 h2 h3 h4
                rw [E1.out, E2.out, E3.out, E4.out, h1, h2]
                refine ⟨rfl, rfl, vint ?_, rfl⟩
                unfold srcUV
                rw [h1]
                by_cases hu : u = 0
                · rw [if_pos hu, h4 hu]
                · rw [if_neg hu, h3 hu]
              have Fin := Lib.hid fin
              have hgd := fun (hs : sizedB k = true) => @getB_drop lb q k hq hs
              rw [HRest.out] at hgd
              have HGD := Lib.hid hgd
              clear hgd
              clear fin
              -- [A
              rcases k01 with rfl | rfl
              all_goals
                by_cases c1 : k < 1
                · go_wp2_with fail
                  go_meet
                  exact and4 (Fin.out 1 0 0 (by simp [srcUE, sizedB]; omega) (by simp) (fun _ => rfl) (by simp))
                by_cases c2 : 8 < k
                · go_wp2_with fail
                  go_meet
                  exact and4 (Fin.out 1 0 0 (by simp [srcUE, sizedB]; omega) (by simp) (fun _ => rfl) (by simp))
                have hsz : sizedB k = true := sized_iff.2 ⟨by omega, by omega⟩
                by_cases c3 : (lb.length : Int) - q < k
                · have HZ := Lib.hid hsz
                  clear hsz
                  go_wp2_with fail
                  go_meet
                  exact and4 (Fin.out 2 0 0 (by have := HLen.out; simp [srcUE, HZ.out]; omega) (by simp) (fun _ => rfl) (by simp))
                obtain ⟨g1, g2⟩ := HGD.out hsz (by have := HLen.out; omega)
                have hget := rget_any ab lb capb q k wx HCX.out (by omega) _ rfl
                rw [g1, g2] at hget
                have HGet := Lib.hid hget
                have HZ := Lib.hid hsz
                clear g1 g2 hget hsz
                go_wp2_with fail
                refine HGet.out.mono ?_
                rintro e w9 ⟨rfl, rfl⟩
                go_wp2_with fail
                go_meet
                exact and4 (Fin.out 0 k _ (by have := HLen.out; simp [srcUE, HZ.out]; omega) (by simp) (by simp) (fun _ => rfl))
              -- A]
            have n0 : ¬ kd = 0 := fun h => k01 (Or.inl h)
            have n1 : ¬ kd = 1 := fun h => k01 (Or.inr h)
            by_cases k2 : kd = 2
            · subst k2
              have e1 : wE ⟨2, k, m, v, st⟩ rest = srcTE rest 0 m := by unfold wE; rw [if_neg k01, if_pos rfl]
              have e3 : wV ⟨2, k, m, v, st⟩ rest = 0 := if_neg k01
              have e2 : wN ⟨2, k, m, v, st⟩ rest = if srcTE rest 0 m ≠ 0 then 0 else 4 + srcTN rest := by unfold wN; rw [e1, if_neg k01, if_pos rfl]
              have e4 : wT ⟨2, k, m, v, st⟩ rest = srcTV rest 0 m := by unfold wT; rw [if_pos rfl]
              have E1 := Lib.hid e1
              have E2 := Lib.hid e2
              have E3 := Lib.hid e3
              have E4 := Lib.hid e4
              clear e1 e2 e3 e4 k01 n0 n1
              have fin : ∀ (u n' : Int) (t : ByteArray), srcTE rest 0 m = u → (if u ≠ 0 then 0 else 4 + srcTN rest) = n' → (u ≠ 0 → t = ⟨#[]⟩) → (u = 0 → t = strOfNums ((rest.drop 4).take (srcTN rest).toNat)) →
                  Value.int .i64 u = .int .i64 (wE ⟨2, k, m, v, st⟩ rest) ∧ Value.int .i64 n' = .int .i64 (wN ⟨2, k, m, v, st⟩ rest) ∧ Value.int .u64 0 = .int .u64 (wV ⟨2, k, m, v, st⟩ rest) ∧ Value.string t = .string (strOfNums (wT ⟨2, k, m, v, st⟩ rest)) := by
                intro u n' t h1 h2 h3 h4
                rw [E1.out, E2.out, E3.out, E4.out, h1, h2]
                refine ⟨rfl, rfl, rfl, vstr ?_⟩
                unfold srcTV
                rw [h1]
                by_cases hu : u = 0
                · rw [if_pos hu, h4 hu]
                · rw [if_neg hu, h3 hu, str_nil]
              have Fin := Lib.hid fin
              clear fin
              have hget := rget_any ab lb capb q 4 wx HCX.out (by omega) _ rfl
              by_cases c1 : (rest.length : Int) < 4
              · skip
                -- [B1
                obtain ⟨g1, g2⟩ := @getB_drop_no lb q 4 hq (by rw [HRest.out]; exact c1)
                rw [g1, g2] at hget
                have HGet := Lib.hid hget
                clear g1 g2 hget
                go_wp2_with fail
                refine HGet.out.mono ?_
                rintro e w9 ⟨rfl, rfl⟩
                go_wp2_with fail
                go_meet
                exact and4 (Fin.out 2 0 _ (by unfold srcTE; rw [if_neg (by decide), if_pos (by omega)]) (by simp) (fun _ => rfl) (by simp))
                -- B1]
              obtain ⟨g1, g2⟩ := @getB_drop lb q 4 hq (by decide) (by rw [HRest.out]; exact c1)
              rw [HRest.out] at g2
              have hN : val (rest.take (4 : Int).toNat) = srcTN rest := rfl
              rw [g1, g2, hN] at hget
              have HGet := Lib.hid hget
              obtain ⟨hN0, hN1⟩ := srcTN_bound rest HRb.out
              have HTE : Hid (srcTE rest 0 m = if m < srcTN rest then 4 else if (rest.length : Int) < 4 + srcTN rest then 2 else 0) := by
                unfold srcTE Hid; rw [if_neg (by decide), if_neg (by omega)]
              clear g1 g2 hget hN
              generalize srcTN rest = N at *
              by_cases c2 : m < 0
              · skip
                -- [B2
                go_wp2_with fail
                refine HGet.out.mono ?_
                rintro e w9 ⟨rfl, rfl⟩
                go_wp2_with fail
                go_meet
                exact and4 (Fin.out 4 0 _ (by rw [HTE.out, if_pos (by omega)]) (by simp) (fun _ => rfl) (by simp))
                -- B2]
              have hw : IntKind.u64.wrap m = m := IntWalk.u64_in _ (by omega)
              by_cases c3 : m < N
              · skip
                -- [B3
                go_wp2_with fail
                refine HGet.out.mono ?_
                rintro e w9 ⟨rfl, rfl⟩
                go_wp2_with fail
                go_meet
                exact and4 (Fin.out 4 0 _ (by rw [HTE.out, if_pos (by omega)]) (by simp) (fun _ => rfl) (by simp))
                -- B3]
              have hl4 : (lb.length : Int) - q - 4 ≥ 0 := by have := HLen.out; omega
              by_cases c4 : (lb.length : Int) - q - 4 < N
              · skip
                -- [B4
                go_wp2_with fail
                refine HGet.out.mono ?_
                rintro e w9 ⟨rfl, rfl⟩
                go_wp2_with fail
                go_meet
                exact and4 (Fin.out 2 0 _ (by have := HLen.out; rw [HTE.out, if_neg (by omega), if_pos (by omega)]) (by simp) (fun _ => rfl) (by simp))
                -- B4]
              obtain ⟨ba, bo, rfl, _⟩ := HCX.out.addr (by have := HLen.out; omega)
              have hcv : ∀ (o' n' c : Nat), (capb = q + 4 → o' = bo) → (¬ capb = q + 4 → o' = bo + (q + 4)) → (n' : Int) = N → (convert 23 9 (.slice (some ⟨ba, o', none⟩) n' c)).run Try.prog wx = .ok (.string (strOfNums ((rest.drop 4).take N.toNat))) wx := by
                intro o' n' c h1 h2 h3
                obtain rfl : N.toNat = n' := by omega
                have hL := HLen.out
                have hd : rest.drop 4 = lb.drop (q + 4) := by rw [← HRest.out, List.drop_drop]
                by_cases hcq : capb = q + 4
                · have hz : N.toNat = 0 := by omega
                  rw [hz]
                  exact run_str (by rw [List.take_zero]; exact Cells8.nil _ _) _ _ 5 _ c Try.underlying23 Try.underlying5 Try.underlying9 (by simp)
                · rw [h2 hcq, hd]
                  exact run_str ((HCX.out.drop (q + 4)).take N.toNat) _ _ 5 _ c Try.underlying23 Try.underlying5 Try.underlying9 (by simp; omega)
              have HCV := Lib.hid hcv
              clear hcv
              -- [B5
              by_cases hcq : capb = q + 4
              · subst hcq
                go_wp2_with fail
                refine HGet.out.mono ?_
                rintro e w9 ⟨rfl, rfl⟩
                go_wp2_with fail
                rw [HCV.out _ _ _ (by intro hh; first | omega | rfl | exact absurd trivial hh | exact absurd rfl hh) (by intro hh; first | omega | rfl | exact absurd trivial hh | exact absurd rfl hh) (by omega)]
                clear HCV
                go_wp2_with fail
                go_meet
                with_reducible refine and4 (Fin.out 0 (4 + N) (strOfNums ((rest.drop 4).take N.toNat)) ?_ ?_ ?_ ?_)
                · have := HLen.out; rw [HTE.out, if_neg (by omega), if_neg (by omega)]
                · rw [if_neg (by decide)]
                · exact fun h => absurd rfl h
                · exact fun _ => rfl
              · skip
                go_wp2_with fail
                refine HGet.out.mono ?_
                rintro e w9 ⟨rfl, rfl⟩
                go_wp2_with fail
                rw [HCV.out _ _ _ (by intro hh; first | omega | rfl | exact absurd trivial hh | exact absurd rfl hh) (by intro hh; first | omega | rfl | exact absurd trivial hh | exact absurd rfl hh) (by omega)]
                clear HCV
                go_wp2_with fail
                go_meet
                with_reducible refine and4 (Fin.out 0 (4 + N) (strOfNums ((rest.drop 4).take N.toNat)) ?_ ?_ ?_ ?_)
                · have := HLen.out; rw [HTE.out, if_neg (by omega), if_neg (by omega)]
                · rw [if_neg (by decide)]
                · exact fun h => absurd rfl h
                · exact fun _ => rfl
              -- B5]
            by_cases k3 : kd = 3
            · skip
              -- [C0
              subst k3
              have e1 : wE ⟨3, k, m, v, st⟩ rest = srcRE rest 0 m := by unfold wE; rw [if_neg k01, if_neg k2, if_pos rfl]
              have e3 : wV ⟨3, k, m, v, st⟩ rest = 0 := if_neg k01
              have e2 : wN ⟨3, k, m, v, st⟩ rest = if srcRE rest 0 m ≠ 0 then 0 else m := by unfold wN; rw [e1, if_neg k01, if_neg k2, if_pos rfl]
              have e4 : wT ⟨3, k, m, v, st⟩ rest = srcRV rest 0 m := by unfold wT; rw [if_neg k2, if_pos rfl]
              have E1 := Lib.hid e1
              have E2 := Lib.hid e2
              have E3 := Lib.hid e3
              have E4 := Lib.hid e4
              clear e1 e2 e3 e4 k01 n0 n1 k2
              have fin : ∀ (u n' : Int) (t : ByteArray), srcRE rest 0 m = u → (if u ≠ 0 then 0 else m) = n' → (u ≠ 0 → t = ⟨#[]⟩) → (u = 0 → t = strOfNums (rest.take m.toNat)) →
                  Value.int .i64 u = .int .i64 (wE ⟨3, k, m, v, st⟩ rest) ∧ Value.int .i64 n' = .int .i64 (wN ⟨3, k, m, v, st⟩ rest) ∧ Value.int .u64 0 = .int .u64 (wV ⟨3, k, m, v, st⟩ rest) ∧ Value.string t = .string (strOfNums (wT ⟨3, k, m, v, st⟩ rest)) := by
                intro u n' t h1 h2 h3 h4
                rw [E1.out, E2.out, E3.out, E4.out, h1, h2]
                refine ⟨rfl, rfl, rfl, vstr ?_⟩
                unfold srcRV
                rw [h1]
                by_cases hu : u = 0
                · rw [if_pos hu, h4 hu]
                · rw [if_neg hu, h3 hu, str_nil]
              have Fin := Lib.hid fin
              clear fin
              by_cases c1 : m < 0
              · go_wp2_with fail
                go_meet
                exact and4 (Fin.out 1 0 ⟨#[]⟩ (by unfold srcRE; rw [if_neg (by decide), if_pos (by omega)]) (by simp) (fun _ => rfl) (by simp))
              by_cases c2 : (lb.length : Int) - q < m
              · go_wp2_with fail
                go_meet
                exact and4 (Fin.out 2 0 ⟨#[]⟩ (by have := HLen.out; unfold srcRE; rw [if_neg (by decide), if_neg (by omega), if_pos (by omega)]) (by simp) (fun _ => rfl) (by simp))
              have hcv : ∀ (a' : Option Addr) (n' c : Nat), (¬ capb = q → a' = ab.map (fun x => x.add q)) → (n' : Int) = m → (convert 23 9 (.slice a' n' c)).run Try.prog wx = .ok (.string (strOfNums (rest.take m.toNat))) wx := by
                intro a' n' c h2 h3
                obtain rfl : m.toNat = n' := by omega
                have hL := HLen.out
                have hd : rest = lb.drop q := HRest.out.symm
                by_cases hcq : capb = q
                · have hz : m.toNat = 0 := by omega
                  rw [hz]
                  exact run_str (by rw [List.take_zero]; exact Cells8.nil _ _) _ _ 5 _ c Try.underlying23 Try.underlying5 Try.underlying9 (by simp)
                · rw [h2 hcq, hd]
                  exact run_str ((cells_drop HCX.out q).take m.toNat) _ _ 5 _ c Try.underlying23 Try.underlying5 Try.underlying9 (by simp; omega)
              have HCV := Lib.hid hcv
              clear hcv
              by_cases hcq : capb = q
              · subst hcq
                go_wp2_with fail
                rw [HCV.out _ _ _ (by intro hh; first | omega | rfl | exact absurd trivial hh | exact absurd rfl hh) (by omega)]
                clear HCV
                go_wp2_with fail
                go_meet
                with_reducible refine and4 (Fin.out 0 m (strOfNums (rest.take m.toNat)) ?_ ?_ ?_ ?_)
                · have := HLen.out; unfold srcRE; rw [if_neg (by decide), if_neg (by omega), if_neg (by omega)]
                · rw [if_neg (by decide)]
                · exact fun h => absurd rfl h
                · exact fun _ => rfl
              · skip
                go_wp2_with fail
                rw [HCV.out _ _ _ (by intro hh; first | omega | rfl | exact absurd trivial hh | exact absurd rfl hh) (by omega)]
                clear HCV
                go_wp2_with fail
                go_meet
                with_reducible refine and4 (Fin.out 0 m (strOfNums (rest.take m.toNat)) ?_ ?_ ?_ ?_)
                · have := HLen.out; unfold srcRE; rw [if_neg (by decide), if_neg (by omega), if_neg (by omega)]
                · rw [if_neg (by decide)]
                · exact fun h => absurd rfl h
                · exact fun _ => rfl
              -- C0]
            have g0 : (kd == 0) = false := by simpa using n0
            have g1 : (kd == 1) = false := by simpa using n1
            have g2 : (kd == 2) = false := by simpa using k2
            have g3 : (kd == 3) = false := by simpa using k3
            have e1 : wE ⟨kd, k, m, v, st⟩ rest = 0 := by unfold wE; rw [if_neg k01, if_neg k2, if_neg k3]
            have e2 : wN ⟨kd, k, m, v, st⟩ rest = 0 := by unfold wN; rw [e1, if_neg k01, if_neg k2, if_neg k3]; rfl
            have e3 : wV ⟨kd, k, m, v, st⟩ rest = 0 := if_neg k01
            have e4 : wT ⟨kd, k, m, v, st⟩ rest = [] := by unfold wT; rw [if_neg k2, if_neg k3]
            have hE : Hid (wE ⟨kd, k, m, v, st⟩ rest = 0 ∧ wN ⟨kd, k, m, v, st⟩ rest = 0 ∧ wV ⟨kd, k, m, v, st⟩ rest = 0 ∧ wT ⟨kd, k, m, v, st⟩ rest = []) := Lib.hid ⟨e1, e2, e3, e4⟩
            clear e1 e2 e3 e4 k01 n0 n1 k2 k3
            go_wp2_with fail
            go_meet
            obtain ⟨e1, e2, e3, e4⟩ := hE.out
            rw [e1, e2, e3, e4]
            exact ⟨rfl, rfl, rfl, rfl, rfl⟩
          case rest =>
            -- [R
            obtain ⟨rfl, rfl, rfl, rfl, rfl⟩ := hcut
            clear HCX
            have z1 := zN_bound ⟨kd, k, m, v, st⟩ rest er HRb.out
            have h01 : kd = 0 ∨ kd = 1 → srcUV rest er k = zV ⟨kd, k, m, v, st⟩ rest er ∧ srcUE rest er k = zE ⟨kd, k, m, v, st⟩ rest er ∧ srcUL rest er k = rest.drop (zN ⟨kd, k, m, v, st⟩ rest er).toNat := step01 ⟨kd, k, m, v, st⟩ rest er
            have h2 : kd = 2 → srcTV rest er m = zT ⟨kd, k, m, v, st⟩ rest er ∧ srcTE rest er m = zE ⟨kd, k, m, v, st⟩ rest er ∧ srcTL rest er m = rest.drop (zN ⟨kd, k, m, v, st⟩ rest er).toNat := step2 ⟨kd, k, m, v, st⟩ rest er HRb.out
            have h3 : kd = 3 → srcRV rest er m = zT ⟨kd, k, m, v, st⟩ rest er ∧ srcRE rest er m = zE ⟨kd, k, m, v, st⟩ rest er ∧ srcRL rest er m = rest.drop (zN ⟨kd, k, m, v, st⟩ rest er).toNat := step3 ⟨kd, k, m, v, st⟩ rest er
            have hO : ¬ kd = 0 → ¬ kd = 1 → ¬ kd = 2 → ¬ kd = 3 → zE ⟨kd, k, m, v, st⟩ rest er = er ∧ zN ⟨kd, k, m, v, st⟩ rest er = 0 := stepO ⟨kd, k, m, v, st⟩ rest er
            have hzi := z_if ⟨kd, k, m, v, st⟩ rest er
            have Z1 := Lib.hid z1
            have H01 := Lib.hid h01
            have H2 := Lib.hid h2
            have H3 := Lib.hid h3
            have HO := Lib.hid hO
            have HZ := Lib.hid hzi
            clear z1 h01 h2 h3 hO hzi
            go_step
            go_step
            go_cut [13, 14, 15] (fun s13 s14 s15 wc => s13 = .int .i64 (zN ⟨kd, k, m, v, st⟩ rest er) ∧ s14 = .int .u64 (zV ⟨kd, k, m, v, st⟩ rest er) ∧ s15 = .string (strOfNums (zT ⟨kd, k, m, v, st⟩ rest er)) ∧ wx = wc)
            case first =>
              have hz0 := z_zero ⟨kd, k, m, v, st⟩ rest
              have hz1 := z_ne ⟨kd, k, m, v, st⟩ rest er
              have HZ0 := Lib.hid hz0
              have HZ1 := Lib.hid hz1
              clear hz0 hz1 Z1 H01 H2 H3 HO HZ
              by_cases her : er = 0
              · subst her
                go_wp2_with fail
                go_meet
                obtain ⟨z1, z2, z3⟩ := HZ0.out
                rw [z1, z2, z3]
                exact ⟨rfl, rfl, rfl, rfl⟩
              · have HER := Lib.hid her
                go_wp2_with fail
                go_meet
                obtain ⟨z1, z2, z3⟩ := HZ1.out HER.out
                rw [z1, z2, z3]
                exact ⟨rfl, rfl, rfl, rfl⟩
            case rest =>
              obtain ⟨rfl, rfl, rfl, rfl⟩ := hcut
              generalize zN ⟨kd, k, m, v, st⟩ rest er = N9 at *
              generalize zV ⟨kd, k, m, v, st⟩ rest er = V9 at *
              generalize zT ⟨kd, k, m, v, st⟩ rest er = T9 at *
              generalize zE ⟨kd, k, m, v, st⟩ rest er = E9 at *
              generalize wE ⟨kd, k, m, v, st⟩ rest = F9 at *
              generalize wN ⟨kd, k, m, v, st⟩ rest = N8 at *
              generalize wV ⟨kd, k, m, v, st⟩ rest = V8 at *
              generalize wT ⟨kd, k, m, v, st⟩ rest = T8 at *
              obtain ⟨z1, z2⟩ := Z1.out
              obtain ⟨Q, hQ⟩ : ∃ Q : Nat, (Q : Int) = q + N9 := ⟨q + N9.toNat, by omega⟩
              have hQl : Q ≤ lb.length := by have := HLen.out; omega
              have hQd : rest.drop N9.toNat = lb.drop Q := by rw [← HRest.out, List.drop_drop]; congr 1; omega
              rw [hQd] at H01 H2 H3
              have HQ := Lib.hid hQ
              have HQD := Lib.hid hQd
              have hL9 : rest.length ≤ 300 := by have := HLen.out; omega
              clear hQ hQd
              go_upto_block 5 with (fail)
              go_cut [18] (fun s18 wc => s18 = .bool true ∧ SS w.heap.size w wc s5 g5 (lb.drop Q) E9)
              case first =>
                as_aux_lemma =>
                -- [K
                have hQd := HQD.out
                clear HQ HQD HRest HLen HZ z1 z2 Z1 hQl
                by_cases k0 : kd = 0
                · subst k0
                  obtain ⟨t1, t2, t3⟩ := H01.out (Or.inl rfl)
                  have hU := fun (w' : World) (h : Srce w' s5 g5 rest er) => srcU_any w' s5 g5 rest er k h (by omega)
                  rw [t1, t2, t3] at hU
                  have HU := Lib.hid hU
                  clear t1 t2 t3 hU H01 H2 H3 HO
                  go_wp2_with fail
                  refine (HU.out _ HSX.out.src).mono ?_
                  rintro e w8 ⟨rfl, ht⟩
                  have HS8 := Lib.hid (HSX.out.takes ht)
                  clear ht d0 d1 d2 d3 d4
                  go_wp2_with fail
                  go_meet
                  exact ⟨rfl, HS8.out⟩
                by_cases k1 : kd = 1
                · subst k1
                  obtain ⟨t1, t2, t3⟩ := H01.out (Or.inr rfl)
                  have hU := fun (w' : World) (h : Srce w' s5 g5 rest er) => srcI_any w' s5 g5 rest er k h (by omega)
                  rw [t1, t2, t3] at hU
                  have HU := Lib.hid hU
                  have hvb := srcUV_bound rest er k HRb.out
                  rw [t1] at hvb
                  have HVB := Lib.hid hvb
                  clear hvb
                  clear t1 t2 t3 hU H01 H2 H3 HO
                  go_wp2_with fail
                  refine (rsigned_any V9 k _ HVB.out.1 HVB.out.2).mono ?_
                  rintro e w7 ⟨rfl, rfl⟩
                  go_wp2_with fail
                  refine (HU.out _ HSX.out.src).mono ?_
                  rintro e w8 ⟨rfl, ht⟩
                  have HS8 := Lib.hid (HSX.out.takes ht)
                  clear ht d0 d1 d2 d3 d4
                  go_wp2_with fail
                  go_meet
                  exact ⟨rfl, HS8.out⟩
                by_cases k2 : kd = 2
                · subst k2
                  obtain ⟨t1, t2, t3⟩ := H2.out rfl
                  have hU := fun (w' : World) (h : Srce w' s5 g5 rest er) => srcText_any w' s5 g5 rest er m h (by omega)
                  rw [t1, t2, t3] at hU
                  have HU := Lib.hid hU
                  clear t1 t2 t3 hU H01 H2 H3 HO
                  go_wp2_with fail
                  refine (HU.out _ HSX.out.src).mono ?_
                  rintro e w8 ⟨rfl, ht⟩
                  have HS8 := Lib.hid (HSX.out.takes ht)
                  clear ht d0 d1 d2 d3 d4
                  go_wp2_with fail
                  go_meet
                  exact ⟨rfl, HS8.out⟩
                by_cases k3 : kd = 3
                · subst k3
                  obtain ⟨t1, t2, t3⟩ := H3.out rfl
                  have hU := fun (w' : World) (h : Srce w' s5 g5 rest er) => srcRaw_any w' s5 g5 rest er m h (by omega)
                  rw [t1, t2, t3] at hU
                  have HU := Lib.hid hU
                  have hrb : Bytes T9 := by
                    rw [← t1]; unfold srcRV; split
                    · exact HRb.out.take _
                    · exact Bytes.nil
                  have HTb := Lib.hid hrb
                  clear hrb
                  clear t1 t2 t3 hU H01 H2 H3 HO
                  go_wp2_with fail
                  refine (HU.out _ HSX.out.src).mono ?_
                  rintro e w8 ⟨a8, cap8, rfl, hown8, ht⟩
                  have F8 := run_str (P := Try.prog) (Cells8.ofOwns HTb.out hown8) 23 9 5 T9.length cap8 Try.underlying23 Try.underlying5 Try.underlying9 rfl
                  clear hown8
                  have HS8 := Lib.hid (HSX.out.takes ht)
                  clear ht d0 d1 d2 d3 d4
                  go_wp2_with fail
                  go_meet
                  exact ⟨rfl, HS8.out⟩
                have hz := HO.out k0 k1 k2 k3
                have g0 : (kd == 0) = false := by simpa using k0
                have g1 : (kd == 1) = false := by simpa using k1
                have g2 : (kd == 2) = false := by simpa using k2
                have g3 : (kd == 3) = false := by simpa using k3
                have hN : N9.toNat = 0 := by rw [hz.2]; rfl
                have hSX := HSX.out
                rw [hN, List.drop_zero] at hQd
                rw [hQd, ← hz.1] at hSX
                have HS8 := Lib.hid hSX
                clear k0 k1 k2 k3 hz hN hSX hQd H01 H2 H3 HO
                go_wp2_with fail
                go_meet
                exact ⟨rfl, HS8.out⟩
                -- K]
              case rest =>
                as_aux_lemma =>
                -- [E
                obtain ⟨rfl, hS9⟩ := hcut
                have HS9 := Lib.hid hS9
                have hq9 : ((lb.drop Q).length : Int) = lb.length - Q := by rw [List.length_drop]; omega
                have hLE := fun (w' : World) (h : Srce w' s5 g5 (lb.drop Q) E9) => left_any w' s5 g5 _ _ h
                rw [hq9] at hLE
                have HLE := Lib.hid hLE
                clear hS9 hq9 hLE H01 H2 H3 HO d0 d1 d2 d3 d4 HBX HSX
                by_cases her : er = 0
                · obtain rfl : F9 = E9 := HZ.out.1 her
                  subst her
                  have hN9 : N9 = (Q : Int) - q := by have := HQ.out; omega
                  subst hN9
                  clear HZ
                  go_wp2_with fail
                  refine (err_any wc s5 g5 _ _ HS9.out.src).mono ?_
                  rintro e w9 ⟨rfl, rfl⟩
                  go_wp2_with fail
                  refine (HLE.out _ HS9.out.src).mono ?_
                  rintro e w10 ⟨rfl, rfl⟩
                  go_wp2_with fail
                  go_roundw
                  case rel => exact ⟨n + 1, Q, _, by omega, hQl, by go_num, rfl, by go_num, HS9.out⟩
                  case measure => simp [intOf]; omega
                · obtain ⟨rfl, rfl⟩ := HZ.out.2 her
                  obtain rfl : Q = q := by have := HQ.out; omega
                  clear HZ
                  go_wp2_with fail
                  refine (err_any wc s5 g5 _ _ HS9.out.src).mono ?_
                  rintro e w9 ⟨rfl, rfl⟩
                  go_wp2_with fail
                  refine (HLE.out _ HS9.out.src).mono ?_
                  rintro e w10 ⟨rfl, rfl⟩
                  go_wp2_with fail
                  go_roundw
                  case rel => exact ⟨n + 1, Q, _, by omega, hQl, by go_num, rfl, by go_num, HS9.out⟩
                  case measure => simp [intOf]; omega
                -- E]
            -- R]
        · -- exit
          obtain rfl : n = l.length := by omega
          have hD := done_any wr s5 g5 _ er hst.src
          have hdl : (lb.drop q).length = lb.length - q := List.length_drop
          have HBel := Lib.hid hst.below
          by_cases c1 : er = 0
          · subst c1
            by_cases c2 : q < lb.length
            · have hd : doneE (lb.drop q) 0 = 3 := if_pos ⟨rfl, by omega⟩
              rw [hd] at hD
              have HD := Lib.hid hD
              clear hst hD hd hdl
              go_wp2_with fail
              refine HD.out.mono ?_
              rintro e w9 ⟨rfl, rfl⟩
              go_wp2_with fail
              go_ret
              exact ⟨rfl, HBel.out⟩
            · have hd : doneE (lb.drop q) 0 = 0 := if_neg (by omega)
              rw [hd] at hD
              have HD := Lib.hid hD
              clear hst hD hd hdl
              go_wp2_with fail
              refine HD.out.mono ?_
              rintro e w9 ⟨rfl, rfl⟩
              go_wp2_with fail
              go_ret
              exact ⟨rfl, HBel.out⟩
          · have hd : doneE (lb.drop q) er = er := if_neg (fun h => c1 h.1)
            rw [hd] at hD
            have HD := Lib.hid hD
            clear hst hD hd hdl
            go_wp2_with fail
            refine HD.out.mono ?_
            rintro e w9 ⟨rfl, rfl⟩
            go_wp2_with fail
            go_ret
            exact ⟨rfl, HBel.out⟩
end Go.Proofs.Ytdgghfmhnidegaa
