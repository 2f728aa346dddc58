import Derived.Test.YtbhdlclaooohfaaGreatDoorOctH
import Derived.Test.YtbhdlclaooohfaaGreatDoorCrcL
import Derived.Test.YtbhdlclaooohfaaGreatDoorFrS
import Derived.OwnWalk
import Derived.Deep.LoopGhost
import Derived.BigQuiet
import Derived.Deep.QuietTactic
/- Veil, of the program and of the reference. -/
namespace Go.Proofs.YtbhdlclaooohfaaGreatDoor
open Go.ChangeShapes Go.WideShapes Go.ChangeAt Go.RowKit
set_option linter.unusedVariables false
set_option linter.unusedSimpArgs false

/-- new memory that holds bytes -/
def NewB (l : List Int) (w : World) (e : Ending) (w' : World) : Prop :=
  ∃ a cap, e = .returned (.slice a l.length cap) ∧ w'.ownsRow w.heap.size 5 1 (.slice a l.length cap) l.length (u8s l) ∧ Below w.heap.size w w'

theorem Src.lit8 {P : Program} (w : World) (l : List Int) (hb : Bytes l) {tx e : TypeId} (hk : P.underlying tx = some (.slice e)) (n : Nat) (hn : n = l.length) :
    Src P 1 tx (.slice (some ⟨w.heap.size, 0, none⟩) n n) n (u8s l) (w.alloc (.cells (u8s l).toArray 5)) :=
  Src.of8 (Cells8.newRow w l hb _ _) hk n n hn

/-- from block B on a slice of the call's own holds bytes; below B the world is as it was -/
structure Own8 (B : Nat) (w0 w : World) (v : Value) (l : List Int) : Prop where
  own : w.ownsRow B 5 1 v l.length (u8s l)
  below : Below B w0 w
  size : B ≤ w.heap.size
  bytes : Bytes l
theorem Own8.nil {w : World} : Own8 w.heap.size w w (.slice none 0 0) [] := ⟨World.ownsRow_nil _ _ _ _, Below.refl _ _, Nat.le_refl _, Bytes.nil⟩
theorem Own8.vB {B : Nat} {w0 w : World} {v : Value} {l : List Int} (h : Own8 B w0 w v l) : ∀ k, v.ownBlock = some k → B ≤ k := fun k hk => (h.own.lt k hk).1
theorem Own8.mod {F : List Nat} {B : Nat} {w0 w w1 : World} {v : Value} {l : List Int} (h : Own8 B w0 w v l) (hm : Mod F w w1) (hF : ∀ x ∈ F, B ≤ x) (hv : ∀ k, v.ownBlock = some k → k ∉ F) : Own8 B w0 w1 v l :=
  ⟨hm.owns h.own hv, h.below.trans (hm.toBelow h.size hF), Nat.le_trans h.size hm.size, h.bytes⟩
theorem Own8.quiet {B : Nat} {w0 w w1 : World} {v : Value} {l : List Int} (h : Own8 B w0 w v l) (hm : Mod [] w w1) : Own8 B w0 w1 v l := h.mod hm (by simp) (by simp)
theorem Own8.alloc {B : Nat} {w0 w : World} {v : Value} {l : List Int} (h : Own8 B w0 w v l) (o : Obj) : Own8 B w0 (w.alloc o) v l := h.quiet ((Mod.refl [] w).alloc o)
theorem Own8.drew {B : Nat} {w0 w : World} {v : Value} {l : List Int} (h : Own8 B w0 w v l) : Own8 B w0 w.drew v l := h.quiet ((Mod.refl [] w).drew)
theorem Own8.grew {B : Nat} {w0 w w1 : World} {v v1 : Value} {l l1 : List Int} (h : Own8 B w0 w v l) (hg : Grew 5 w v l1 v1 w1) (hb : Bytes l1) : Own8 B w0 w1 v1 l1 := by
  obtain ⟨h1, h2⟩ := hg.since h.size h.vB
  exact ⟨h1, h.below.trans h2, Nat.le_trans h.size h2.size, hb⟩
theorem Own8.base {B : Nat} {w0 w : World} {v : Value} {l : List Int} (h : Own8 B w0 w v l) : w.ownsRow 0 5 1 v l.length (u8s l) := owns_rebase h.own fun _ _ => Nat.zero_le _
theorem Own8.shape {B : Nat} {w0 w : World} {v : Value} {l : List Int} (h : Own8 B w0 w v l) : ∃ a cap, v = .slice a l.length cap := by
  obtain ⟨a, cap, h, _⟩ := owns_shape h.own
  exact ⟨a, cap, h⟩
theorem Own8.cells {B : Nat} {w0 w : World} {a : Option Addr} {n cap : Nat} {l : List Int} (h : Own8 B w0 w (.slice a n cap) l) : Cells8 w a l := by
  obtain ⟨a', cap', he⟩ := h.shape
  obtain ⟨rfl, rfl, rfl⟩ : a = a' ∧ n = l.length ∧ cap = cap' := by simpa using he
  exact Cells8.ofOwns h.bytes h.base
theorem NewB.own8 {l : List Int} {w w' : World} {e : Ending} (hb : Bytes l) (h : NewB l w e w') : ∃ a cap, e = .returned (.slice a l.length cap) ∧ Own8 w.heap.size w w' (.slice a l.length cap) l := by
  obtain ⟨a, cap, h1, h2, h3⟩ := h
  exact ⟨a, cap, h1, h2, h3, h3.size, hb⟩
theorem Own8.newB {w w' : World} {a : Option Addr} {cap : Nat} {l : List Int} (h : Own8 w.heap.size w w' (.slice a l.length cap) l) : NewB l w (.returned (.slice a l.length cap)) w' := ⟨a, cap, rfl, h.own, h.below⟩

theorem veil_take_succ (l : List Int) (n : Nat) (h : n < l.length) : veil (l.take (n + 1)) = veil (l.take n) ++ vb (l.getD n 0) := by
  rw [List.take_succ_eq_append_getElem h, veil_snoc]
  simp [List.getD, h]
theorem veil_take_le (l : List Int) (n : Nat) : (veil (l.take n)).length ≤ 2 * l.length := by
  have := veil_length (l.take n)
  have : (l.take n).length ≤ l.length := by simp; omega
  omega
theorem sub80 (y : Int) (h : 80 ≤ y) (h1 : y < 256) : IntKind.u8.wrap (y - 80) = y - 80 := by rw [IntKind.wrap_u8]; omega

set_option maxHeartbeats 1000000 in
theorem veil_any (l : List Int) (a : Option Addr) (n cap : Nat) (w : World) (hc : Cells8 w a l) (hn : n = l.length) (hl : l.length ≤ 1000000000) :
    Calls Tryz.prog 67 #[.slice a n cap] w (NewB (veil l) w) := by
  obtain ⟨i, hi1, hi2, hi3, hi4⟩ := info_parts Tryz.info8
  subst hn
  have HC := Lib.hid hc
  clear hc
  go_enter Tryz.func67, Tryz.ntmps67
  go_wp2_with (at_make; refine wpList_make_own _ rfl _ _ 22 rfl w.heap.size 5 i (.int .u8 0) 1 Tryz.underlying22 hi1 hi2 hi3 _ _ _ l.length rfl rfl rfl (by rw [hi4]; omega) (by simp only [maxLen]; omega) (Nat.le_refl _) ?_)
  intro w1 hown hgr
  have hbl0 : Below w.heap.size w w1 := (Below.refl _ _).grown hgr (Nat.le_refl _) (by simp)
  have H1 : Hid (Own8 w.heap.size w w1 (.slice (some ⟨w.heap.size, 0, none⟩) 0 l.length) []) := Lib.hid ⟨hown, hbl0, hbl0.size, Bytes.nil⟩
  clear hown hgr hbl0
  go_wp2_with fail
  go_loopw [3, 11] (fun v i wr => ∃ k : Nat, k ≤ l.length ∧ i = .int .i64 k ∧ Own8 w.heap.size w wr v (veil (l.take k))) (fun _ i _ => (l.length - intOf i).toNat)
  case atStart => exact ⟨0, by omega, rfl, H1.out⟩
  case round =>
    obtain ⟨k, hk, rfl, ho⟩ := hrel
    have HO := Lib.hid ho
    clear ho
    by_cases hlt : k < l.length
    · obtain ⟨b, o, rfl, _⟩ := HC.out.addr (by omega)
      have hcell := (HC.out.old HO.out.below).at k hlt
      have hy := HC.out.1.getD k
      have hlen := veil_take_le l k
      have Hstep := Lib.hid (veil_take_succ l k hlt)
      generalize l.getD k 0 = y at *
      generalize veil (l.take k) = xs at *
      by_cases h80 : y = 80
      · have hvb : vb y = [81, 0] := by simp [vb, h80]
        have Hvb := Lib.hid hvb
        clear hvb
        subst h80
        go_wp2_with (at_builtin; refine wpList_append8 _ rfl _ _ 22 22 rfl 5 Tryz.underlying22 Tryz.info8 _ xs rfl (HO.out.alloc _).base _ _ [81, 0] rfl (Src.lit8 wr [81, 0] (by intro x hx; simp at hx; omega) Tryz.underlying22 2 rfl) (by simp; omega) (xs ++ [81, 0]) rfl ?_)
        intro v1 w2 hg
        have HO1 := Lib.hid ((HO.out.alloc _).grew hg (by rw [← Hvb.out]; exact HO.out.bytes.append (vb_bytes (by omega))))
        clear hg
        go_wp2_with fail
        go_roundw
        case rel => exact ⟨k + 1, by omega, by go_num, by rw [Hstep.out, Hvb.out]; exact HO1.out⟩
        case measure => simp [intOf]; omega
      · by_cases h81 : y = 81
        · have hvb : vb y = [81, 1] := by simp [vb, h81]
          have Hvb := Lib.hid hvb
          clear hvb
          subst h81
          go_wp2_with (at_builtin; refine wpList_append8 _ rfl _ _ 22 22 rfl 5 Tryz.underlying22 Tryz.info8 _ xs rfl (HO.out.alloc _).base _ _ [81, 1] rfl (Src.lit8 wr [81, 1] (by intro x hx; simp at hx; omega) Tryz.underlying22 2 rfl) (by simp; omega) (xs ++ [81, 1]) rfl ?_)
          intro v1 w2 hg
          have HO1 := Lib.hid ((HO.out.alloc _).grew hg (by rw [← Hvb.out]; exact HO.out.bytes.append (vb_bytes (by omega))))
          clear hg
          go_wp2_with fail
          go_roundw
          case rel => exact ⟨k + 1, by omega, by go_num, by rw [Hstep.out, Hvb.out]; exact HO1.out⟩
          case measure => simp [intOf]; omega
        · have hvb : vb y = [y] := by simp [vb, h81, h80]
          have e80 : (y == 80) = false := by simp [h80]
          have e81 : (y == 81) = false := by simp [h81]
          have Hvb := Lib.hid hvb
          clear hvb h80 h81
          go_wp2_with (at_builtin; refine wpList_append8 _ rfl _ _ 22 22 rfl 5 Tryz.underlying22 Tryz.info8 _ xs rfl (HO.out.alloc _).base _ _ [y] rfl (Src.lit8 wr [y] (by intro x hx; simp at hx; omega) Tryz.underlying22 1 rfl) (by simp; omega) (xs ++ [y]) rfl ?_)
          intro v1 w2 hg
          have HO1 := Lib.hid ((HO.out.alloc _).grew hg (by rw [← Hvb.out]; exact HO.out.bytes.append (vb_bytes (by omega))))
          clear hg
          go_wp2_with fail
          go_roundw
          case rel => exact ⟨k + 1, by omega, by go_num, by rw [Hstep.out, Hvb.out]; exact HO1.out⟩
          case measure => simp [intOf]; omega
    · obtain rfl : k = l.length := by omega
      have h := HO.out
      rw [List.take_length] at h
      clear HO
      obtain ⟨a1, cap1, rfl⟩ := h.shape
      have HO := Lib.hid h
      clear h
      go_wp2_with fail
      go_ret
      exact HO.out.newB

set_option maxHeartbeats 1000000 in
theorem rveil_any (l : List Int) (a : Option Addr) (n cap : Nat) (w : World) (hc : Cells8 w a l) (hn : n = l.length) (hl : l.length ≤ 1000000000) :
    Calls Tryz.prog 79 #[.slice a n cap] w (NewB (veil l) w) := by
  subst hn
  have HC := Lib.hid hc
  clear hc
  have H1 : Hid (Own8 w.heap.size w w (.slice none 0 0) []) := Lib.hid Own8.nil
  go_enter Tryz.func79, Tryz.ntmps79
  go_wp2_with fail
  go_loopw [3, 4] (fun v i wr => ∃ k : Nat, k ≤ l.length ∧ i = .int .i64 k ∧ Own8 w.heap.size w wr v (veil (l.take k))) (fun _ i _ => (l.length - intOf i).toNat)
  case atStart => exact ⟨0, by omega, rfl, H1.out⟩
  case round =>
    obtain ⟨k, hk, rfl, ho⟩ := hrel
    have HO := Lib.hid ho
    clear ho
    by_cases hlt : k < l.length
    · obtain ⟨b, o, rfl, _⟩ := HC.out.addr (by omega)
      have hcell := (HC.out.old HO.out.below).at k hlt
      have hy := HC.out.1.getD k
      have hlen := veil_take_le l k
      have Hstep := Lib.hid (veil_take_succ l k hlt)
      generalize l.getD k 0 = y at *
      generalize veil (l.take k) = xs at *
      by_cases h80 : y = 80
      · have Hvb := Lib.hid (show vb y = [81, 0] by simp [vb, h80])
        subst h80
        go_wp2_with (at_builtin; refine wpList_append8 _ rfl _ _ 22 22 rfl 5 Tryz.underlying22 Tryz.info8 _ xs rfl (HO.out.alloc _).base _ _ [81, 0] rfl (Src.lit8 wr [81, 0] (by intro x hx; simp at hx; omega) Tryz.underlying22 2 rfl) (by simp; omega) (xs ++ [81, 0]) rfl ?_)
        intro v1 w2 hg
        have HO1 := Lib.hid ((HO.out.alloc _).grew hg (by rw [← Hvb.out]; exact HO.out.bytes.append (vb_bytes (by omega))))
        clear hg
        go_wp2_with fail
        go_roundw
        case rel => exact ⟨k + 1, by omega, by go_num, by rw [Hstep.out, Hvb.out]; exact HO1.out⟩
        case measure => simp [intOf]; omega
      · by_cases h81 : y = 81
        · have Hvb := Lib.hid (show vb y = [81, 1] by simp [vb, h81])
          subst h81
          go_wp2_with (at_builtin; refine wpList_append8 _ rfl _ _ 22 22 rfl 5 Tryz.underlying22 Tryz.info8 _ xs rfl (HO.out.alloc _).base _ _ [81, 1] rfl (Src.lit8 wr [81, 1] (by intro x hx; simp at hx; omega) Tryz.underlying22 2 rfl) (by simp; omega) (xs ++ [81, 1]) rfl ?_)
          intro v1 w2 hg
          have HO1 := Lib.hid ((HO.out.alloc _).grew hg (by rw [← Hvb.out]; exact HO.out.bytes.append (vb_bytes (by omega))))
          clear hg
          go_wp2_with fail
          go_roundw
          case rel => exact ⟨k + 1, by omega, by go_num, by rw [Hstep.out, Hvb.out]; exact HO1.out⟩
          case measure => simp [intOf]; omega
        · have Hvb := Lib.hid (show vb y = [y] by simp [vb, h80, h81])
          have e80 : (y == 80) = false := by simp [h80]
          have e81 : (y == 81) = false := by simp [h81]
          clear h80 h81
          go_wp2_with (at_builtin; refine wpList_append8 _ rfl _ _ 22 22 rfl 5 Tryz.underlying22 Tryz.info8 _ xs rfl (HO.out.alloc _).base _ _ [y] rfl (Src.lit8 wr [y] (by intro x hx; simp at hx; omega) Tryz.underlying22 1 rfl) (by simp; omega) (xs ++ [y]) rfl ?_)
          intro v1 w2 hg
          have HO1 := Lib.hid ((HO.out.alloc _).grew hg (by rw [← Hvb.out]; exact HO.out.bytes.append (vb_bytes (by omega))))
          clear hg
          go_wp2_with fail
          go_roundw
          case rel => exact ⟨k + 1, by omega, by go_num, by rw [Hstep.out, Hvb.out]; exact HO1.out⟩
          case measure => simp [intOf]; omega
    · obtain rfl : k = l.length := by omega
      have h := HO.out
      rw [List.take_length] at h
      clear HO
      obtain ⟨a1, cap1, rfl⟩ := h.shape
      have HO := Lib.hid h
      clear h
      go_wp2_with fail
      go_ret
      exact HO.out.newB
end Go.Proofs.YtbhdlclaooohfaaGreatDoor

/- sumOf and Wrap. -/
namespace Go.Proofs.YtbhdlclaooohfaaGreatDoor
open Go.ChangeShapes Go.WideShapes Go.ChangeAt Go.RowKit
set_option linter.unusedVariables false
set_option linter.unusedSimpArgs false

theorem U_wrap64 (s : St) : IntKind.u64.wrap (U s) = U s := by
  have := U_bounds s
  exact IntWalk.u64_in _ (by omega)

theorem sumOf_any (x p : List Int) (a b : Option Addr) (n c m d : Nat) (w : World) (hx : Cells8 w a x) (hn : n = x.length) (hp : Cells8 w b p) (hm : m = p.length) (hxl : x.length ≤ 1000000000) (hpl : p.length ≤ 1000000000) (ht : Halves w) :
    Calls Tryz.prog 55 #[.slice a n c, .slice b m d] w fun e w' => e = .returned (.int .u64 (U (sumV 0#32 (x ++ p)))) ∧ w = w' := by
  subst hn
  subst hm
  have H1 := Lib.hid (of_any' x a c w hx (by omega) ht)
  have H2 := Lib.hid (more_any (sumV 0#32 x) p b d w hp (by omega) ht)
  rw [sumV_append] at H2
  have hw := U_wrap64 (sumV 0#32 (x ++ p))
  have hb := U_bounds (sumV 0#32 (x ++ p))
  generalize sumV 0#32 (x ++ p) = r at *
  generalize sumV 0#32 x = q at *
  clear hx hp ht
  go_enter Tryz.func55, Tryz.ntmps55
  go_wp2_with (first
    | (go_at_call 72; refine H1.out.mono ?_; rintro e w' ⟨rfl, rfl⟩)
    | (go_at_call 71; refine H2.out.mono ?_; rintro e w' ⟨rfl, rfl⟩))
  go_ret
  exact ⟨rfl, rfl⟩

/-- a sink of the call's own -/
structure SB (B : Nat) (w0 w : World) (s : Nat) (v : Value) (l : List Int) : Prop where
  snk : Snk w s v l
  sB : B ≤ s
  vB : ∀ k, v.ownBlock = some k → B ≤ k
  below : Below B w0 w
  size : B ≤ w.heap.size
theorem SB.new (w : World) : SB w.heap.size w (w.alloc (.cells #[.slice none 0 0] 113)) w.heap.size (.slice none 0 0) [] :=
  ⟨Snk.new w, Nat.le_refl _, by simp [Value.ownBlock], ((Mod.refl [] w).alloc _).toBelow (Nat.le_refl _) (by simp), by simp⟩
theorem SB.puts {B : Nat} {w0 w w1 : World} {s : Nat} {v v1 : Value} {l l1 : List Int} (h : SB B w0 w s v l) (hp : Puts w s v l1 v1 w1) : SB B w0 w1 s v1 l1 := by
  refine ⟨hp.snk, h.sB, ?_, h.below.trans (hp.mod.toBelow h.size ?_), Nat.le_trans h.size hp.mod.size⟩
  · intro k hk
    rcases hp.blk k hk with h1 | h1
    · exact h.vB k h1
    · have := h.size; omega
  · intro x hx
    simp only [List.mem_cons, Option.mem_toList] at hx
    rcases hx with rfl | hx
    · exact h.sB
    · exact h.vB x hx
theorem SB.quiet {B : Nat} {w0 w w1 : World} {s : Nat} {v : Value} {l : List Int} (h : SB B w0 w s v l) (hm : Mod [] w w1) : SB B w0 w1 s v l :=
  ⟨h.snk.mod hm (by simp) (by simp), h.sB, h.vB, h.below.trans (hm.toBelow h.size (by simp)), Nat.le_trans h.size hm.size⟩

theorem Halves.old {w w' : World} (h : Halves w) (hm : Below w.heap.size w w') : Halves w' := fun i hi => (hm.cell (World.block_lt_of_cell? w _ (h i hi))).trans (h i hi)

/-- what Wrap answers -/
def NewFrame (l : List Int) (er : Int) (w : World) (e : Ending) (w' : World) : Prop :=
  ∃ a cap, e = .returned (.tuple #[.slice a l.length cap, .int .i64 er]) ∧ Own8 w.heap.size w w' (.slice a l.length cap) l
theorem Own8.none (w : World) : Own8 w.heap.size w w (.slice none 0 0) [] := Own8.nil
theorem NewFrame.nil {p : List Int} {kind : Int} {w : World} (er : Int) (h : wrapE kind p.length = er) (he : er ≠ 0) : NewFrame (wrapR kind p) (wrapE kind p.length) w (.returned (.tuple #[.slice none 0 0, .int .i64 er])) w := by
  rw [wrapR_err (by rw [h]; exact he), h]
  exact ⟨none, 0, rfl, Own8.nil⟩

set_option maxHeartbeats 2000000 in
theorem wrap_any (kind : Int) (p : List Int) (a : Option Addr) (n cap : Nat) (w : World) (hc : Cells8 w a p) (hn : n = p.length) (hl : p.length ≤ 9223372036854775807) (ht : Halves w) :
    Calls Tryz.prog 47 #[.int .i64 kind, .slice a n cap] w (NewFrame (wrapR kind p) (wrapE kind p.length) w) := by
  subst hn
  have HC := Lib.hid hc
  have HT := Lib.hid ht
  clear hc ht
  by_cases hk0 : kind < 0
  · have HE := Lib.hid (show wrapE kind p.length = 1 by simp [wrapE, hk0])
    go_enter Tryz.func47, Tryz.ntmps47
    go_wp2_with fail
    go_ret2
    exact NewFrame.nil 1 HE.out (by decide)
  by_cases hk1 : 255 < kind
  · have HE := Lib.hid (show wrapE kind p.length = 1 by simp [wrapE, hk1])
    go_enter Tryz.func47, Tryz.ntmps47
    go_wp2_with fail
    go_ret2
    exact NewFrame.nil 1 HE.out (by decide)
  by_cases hlen : (65536 : Int) < (p.length : Int)
  · have HE := Lib.hid (show wrapE kind p.length = 4 by unfold wrapE; rw [if_neg (by omega), if_pos (by omega)])
    go_enter Tryz.func47, Tryz.ntmps47
    go_wp2_with fail
    go_ret2
    exact NewFrame.nil 4 HE.out (by decide)
  have HE := Lib.hid (show wrapE kind p.length = 0 from wrapE_ok.2 (by omega))
  have hp1 : putL kind 1 = be kind 1 := by simp [putL, kind_put (show 0 ≤ kind ∧ kind ≤ 255 by omega)]
  have hp2 : putL (p.length : Int) 4 = be p.length 4 := by simp [putL, four_holds (show (p.length : Int) < 4294967296 by omega)]
  have hp3 : putL (sumP kind p) 4 = be (sumP kind p) 4 := by simp [putL, four_holds (sumP_bounds kind p).2]
  have ek : IntKind.u64.wrap kind = kind := IntWalk.u64_in _ (by omega)
  have el : IntKind.u64.wrap (p.length : Int) = p.length := IntWalk.u64_in _ (by omega)
  have Hp1 := Lib.hid hp1
  have Hp2 := Lib.hid hp2
  have Hp3 := Lib.hid hp3
  clear hp1 hp2 hp3
  go_enter Tryz.func47, Tryz.ntmps47
  go_wp2_with fail
  refine (newSink_any w).mono ?_
  rintro e w1 ⟨rfl, rfl⟩
  have H0 := Lib.hid (SB.new w)
  generalize w.alloc (.cells #[.slice none 0 0] 113) = w1 at *
  go_wp2_with fail
  refine (sinkU_any w1 _ _ [] H0.out.snk kind 1 (by omega) (by omega) (by simp)).mono ?_
  rintro e w2 ⟨rfl, v1, hp⟩
  rw [Hp1.out, List.nil_append] at hp
  have H1 := Lib.hid (H0.out.puts hp)
  clear hp
  go_wp2_with fail
  refine (sinkU_any w2 _ _ _ H1.out.snk p.length 4 (by omega) (by omega) (by simp [be_length])).mono ?_
  rintro e w3 ⟨rfl, v2, hp⟩
  rw [Hp2.out] at hp
  have H2 : Hid (SB w.heap.size w w3 w.heap.size v2 (frontL kind p.length)) := Lib.hid (H1.out.puts hp)
  clear hp
  go_wp2_with fail
  refine (sinkBytes_any w3 _ _ _ H2.out.snk (by simp [frontL_length])).mono ?_
  rintro e w4 ⟨a4, c4, rfl, ho, hb⟩
  have H3 := Lib.hid (H2.out.quiet (Mod.ofBelow hb))
  have HC4 := Lib.hid (Cells8.ofOwns (frontL_bytes kind p.length) (owns_rebase ho fun _ _ => Nat.zero_le _))
  have HF := Lib.hid (frontL_length kind p.length)
  have HP4 := Lib.hid (HC.out.old H3.out.below)
  have HT4 := Lib.hid (HT.out.old H3.out.below)
  clear ho hb
  go_wp2_with fail
  have HS : Hid (Calls Tryz.prog 55 #[.slice a4 (frontL kind p.length).length c4, .slice a p.length cap] w4 fun e w' => e = .returned (.int .u64 (sumP kind p)) ∧ w4 = w') := Lib.hid (sumOf_any (frontL kind p.length) p _ _ _ _ _ _ w4 HC4.out rfl HP4.out rfl (by rw [HF.out]; omega) (by omega) HT4.out)
  refine HS.out.mono ?_
  rintro e w' ⟨rfl, rfl⟩
  have hs := sumP_bounds kind p
  have Hlen : Hid ((plainL kind p).length = 9 + p.length) := Lib.hid (plainL_length kind p)
  have Hvl := Lib.hid (veil_length (plainL kind p))
  have Hplain : Hid (frontL kind p.length ++ be (sumP kind p) 4 ++ p = plainL kind p) := Lib.hid (by simp [plainL])
  have Hfl : Hid ((frontL kind p.length ++ be (sumP kind p) 4).length = 9) := Lib.hid (by simp [frontL_length, be_length])
  have Hfin : Hid (wrapR kind p = 80 :: veil (plainL kind p)) := Lib.hid (wrapR_ok HE.out)
  generalize sumP kind p = sm at *
  generalize plainL kind p = pl at *
  go_wp2_with fail
  refine (sinkU_any w4 _ _ _ H3.out.snk sm 4 (by omega) (by omega) (by rw [HF.out]; omega)).mono ?_
  rintro e w5 ⟨rfl, v5, hp⟩
  rw [Hp3.out] at hp
  have H5 := Lib.hid (H3.out.puts hp)
  have HP5 := Lib.hid (HC.out.old H5.out.below)
  clear hp
  go_wp2_with fail
  refine (raw_any w5 _ _ _ H5.out.snk a cap _ p HP5.out rfl (by rw [Hfl.out]; omega)).mono ?_
  rintro e w6 ⟨rfl, v6, hp⟩
  rw [Hplain.out] at hp
  have H6 := Lib.hid (H5.out.puts hp)
  clear hp
  have H7 : Hid (Own8 w.heap.size w (w6.alloc (.cells #[.int .u8 80] 5)) (.slice (some ⟨w6.heap.size, 0, none⟩) 1 1) [80]) := Lib.hid ⟨World.ownsRow_lit w6 #[.int .u8 80] 1 H6.out.size (by simp [maxLen]) rfl, H6.out.below.trans (((Mod.refl [] w6).alloc _).toBelow H6.out.size (by simp)), Nat.le_trans H6.out.size (by simp), by intro x hx; simp at hx; omega⟩
  have H8 := Lib.hid (H6.out.quiet ((Mod.refl [] w6).alloc (.cells #[.int .u8 80] 5)))
  go_wp2_with fail
  generalize w6.alloc (.cells #[.int .u8 80] 5) = w7 at *
  refine (sinkBytes_any w7 _ _ _ H8.out.snk (by rw [Hlen.out]; omega)).mono ?_
  rintro e w8 ⟨a8, c8, rfl, ho, hb⟩
  have H9 := Lib.hid (H7.out.quiet (Mod.ofBelow hb))
  have HC8 := Lib.hid (Cells8.ofOwns H8.out.snk.bytes (owns_rebase ho fun _ _ => Nat.zero_le _))
  clear ho hb
  go_wp2_with fail
  refine (veil_any pl _ _ _ w8 HC8.out rfl (by rw [Hlen.out]; omega)).mono ?_
  rintro e w9 ⟨a9, c9, rfl, ho, hb⟩
  have H10 := Lib.hid (H9.out.quiet (Mod.ofBelow hb))
  have HC9 := Lib.hid (Cells8.ofOwns (veil_bytes HC8.out.1) (owns_rebase ho fun _ _ => Nat.zero_le _))
  clear ho hb
  go_wp2_with (at_builtin; refine wpList_append8 _ rfl _ _ 22 22 rfl 5 Tryz.underlying22 Tryz.info8 _ [80] rfl H10.out.base _ _ (veil pl) rfl (Src.of8 HC9.out Tryz.underlying22 _ _ rfl) (by have := Hvl.out; have := Hlen.out; simp; omega) (wrapR kind p) Hfin.out ?_)
  intro v10 w10 hg
  have H11 := Lib.hid (H10.out.grew hg (wrapR_bytes kind HC.out.1))
  clear hg
  obtain ⟨a11, c11, rfl⟩ := H11.out.shape
  go_wp2_with fail
  go_ret2
  rw [HE.out]
  exact ⟨a11, c11, rfl, H11.out⟩
end Go.Proofs.YtbhdlclaooohfaaGreatDoor

