/- Veil, of the program and of the reference. -/
import Derived.Test.YtondgejbmoiggaaDoorOctF
import Derived.Test.YtondgejbmoiggaaDoorCrcL
import Derived.Test.YtondgejbmoiggaaDoorFrP
import Derived.OwnWalk
import Derived.Deep.LoopGhost
import Derived.BigQuiet
import Derived.Deep.QuietTactic
namespace Go.Proofs.YtondgejbmoiggaaDoor
open Go.ChangeShapes Go.WideShapes Go.ChangeAt Go.RowKit
set_option linter.unusedVariables false
set_option linter.unusedSimpArgs false

/-- new memory that holds bytes -/
def NewB (l : List Int) (w : World) (e : Ending) (w' : World) : Prop :=
  ∃ a cap, e = .returned (.slice a l.length cap) ∧ w'.ownsRow w.heap.size 5 1 (.slice a l.length cap) l.length (u8s l) ∧ Below w.heap.size w w'

theorem Src.lit8 {P : Program} (w : World) (l : List Int) (hb : Bytes l) {tx e : TypeId} (hk : P.underlying tx = some (.slice e)) (n : Nat) (hn : n = l.length) :
    Src P 1 tx (.slice (some ⟨w.heap.size, 0, none⟩) n n) n (u8s l) (w.alloc (.cells (u8s l).toArray 5)) :=
  Src.of8 (Cells8.newRow w l hb _ _) hk n n hn

/-- from block B on a slice of the call's own holds bytes; below B the world is as it was -/
structure Own8 (B : Nat) (w0 w : World) (v : Value) (l : List Int) : Prop where
  own : w.ownsRow B 5 1 v l.length (u8s l)
  below : Below B w0 w
  size : B ≤ w.heap.size
  bytes : Bytes l
theorem Own8.nil {w : World} : Own8 w.heap.size w w (.slice none 0 0) [] := ⟨World.ownsRow_nil _ _ _ _, Below.refl _ _, Nat.le_refl _, Bytes.nil⟩
theorem Own8.vB {B : Nat} {w0 w : World} {v : Value} {l : List Int} (h : Own8 B w0 w v l) : ∀ k, v.ownBlock = some k → B ≤ k := fun k hk => (h.own.lt k hk).1
theorem Own8.mod {F : List Nat} {B : Nat} {w0 w w1 : World} {v : Value} {l : List Int} (h : Own8 B w0 w v l) (hm : Mod F w w1) (hF : ∀ x ∈ F, B ≤ x) (hv : ∀ k, v.ownBlock = some k → k ∉ F) : Own8 B w0 w1 v l :=
  ⟨hm.owns h.own hv, h.below.trans (hm.toBelow h.size hF), Nat.le_trans h.size hm.size, h.bytes⟩
theorem Own8.quiet {B : Nat} {w0 w w1 : World} {v : Value} {l : List Int} (h : Own8 B w0 w v l) (hm : Mod [] w w1) : Own8 B w0 w1 v l := h.mod hm (by simp) (by simp)
theorem Own8.alloc {B : Nat} {w0 w : World} {v : Value} {l : List Int} (h : Own8 B w0 w v l) (o : Obj) : Own8 B w0 (w.alloc o) v l := h.quiet ((Mod.refl [] w).alloc o)
theorem Own8.drew {B : Nat} {w0 w : World} {v : Value} {l : List Int} (h : Own8 B w0 w v l) : Own8 B w0 w.drew v l := h.quiet ((Mod.refl [] w).drew)
theorem Own8.grew {B : Nat} {w0 w w1 : World} {v v1 : Value} {l l1 : List Int} (h : Own8 B w0 w v l) (hg : Grew 5 w v l1 v1 w1) (hb : Bytes l1) : Own8 B w0 w1 v1 l1 := by
  obtain ⟨h1, h2⟩ := hg.since h.size h.vB
  exact ⟨h1, h.below.trans h2, Nat.le_trans h.size h2.size, hb⟩
theorem Own8.base {B : Nat} {w0 w : World} {v : Value} {l : List Int} (h : Own8 B w0 w v l) : w.ownsRow 0 5 1 v l.length (u8s l) := owns_rebase h.own fun _ _ => Nat.zero_le _
theorem Own8.shape {B : Nat} {w0 w : World} {v : Value} {l : List Int} (h : Own8 B w0 w v l) : ∃ a cap, v = .slice a l.length cap := by
  obtain ⟨a, cap, h, _⟩ := owns_shape h.own
  exact ⟨a, cap, h⟩
theorem Own8.cells {B : Nat} {w0 w : World} {a : Option Addr} {n cap : Nat} {l : List Int} (h : Own8 B w0 w (.slice a n cap) l) : Cells8 w a l := by
  obtain ⟨a', cap', he⟩ := h.shape
  obtain ⟨rfl, rfl, rfl⟩ : a = a' ∧ n = l.length ∧ cap = cap' := by simpa using he
  exact Cells8.ofOwns h.bytes h.base
theorem NewB.own8 {l : List Int} {w w' : World} {e : Ending} (hb : Bytes l) (h : NewB l w e w') : ∃ a cap, e = .returned (.slice a l.length cap) ∧ Own8 w.heap.size w w' (.slice a l.length cap) l := by
  obtain ⟨a, cap, h1, h2, h3⟩ := h
  exact ⟨a, cap, h1, h2, h3, h3.size, hb⟩
theorem Own8.newB {w w' : World} {a : Option Addr} {cap : Nat} {l : List Int} (h : Own8 w.heap.size w w' (.slice a l.length cap) l) : NewB l w (.returned (.slice a l.length cap)) w' := ⟨a, cap, rfl, h.own, h.below⟩

theorem veil_take_succ (l : List Int) (n : Nat) (h : n < l.length) : veil (l.take (n + 1)) = veil (l.take n) ++ vb (l.getD n 0) := by
  rw [List.take_succ_eq_append_getElem h, veil_snoc]
  simp [List.getD, h]
theorem veil_take_le (l : List Int) (n : Nat) : (veil (l.take n)).length ≤ 2 * l.length := by
  have := veil_length (l.take n)
  have : (l.take n).length ≤ l.length := by simp; omega
  omega
theorem sub80 (y : Int) (h : 80 ≤ y) (h1 : y < 256) : IntKind.u8.wrap (y - 80) = y - 80 := by rw [IntKind.wrap_u8]; omega

set_option maxHeartbeats 1000000 in
theorem veil_any (l : List Int) (a : Option Addr) (n cap : Nat) (w : World) (hc : Cells8 w a l) (hn : n = l.length) (hl : l.length ≤ 1000000000) :
    Calls Tryd.prog 47 #[.slice a n cap] w (NewB (veil l) w) := by
  obtain ⟨i, hi1, hi2, hi3, hi4⟩ := info_parts Tryd.info8
  subst hn
  have HC := Lib.hid hc
  clear hc
  go_enter Tryd.func47, Tryd.ntmps47
  go_wp2_with (at_make; refine wpList_make_own _ rfl _ _ 22 rfl w.heap.size 5 i (.int .u8 0) 1 Tryd.underlying22 hi1 hi2 hi3 _ _ _ l.length rfl rfl rfl (by rw [hi4]; omega) (by simp only [maxLen]; omega) (Nat.le_refl _) ?_)
  intro w1 hown hgr
  have hbl0 : Below w.heap.size w w1 := (Below.refl _ _).grown hgr (Nat.le_refl _) (by simp)
  have H1 : Hid (Own8 w.heap.size w w1 (.slice (some ⟨w.heap.size, 0, none⟩) 0 l.length) []) := Lib.hid ⟨hown, hbl0, hbl0.size, Bytes.nil⟩
  clear hown hgr hbl0
  go_wp2_with fail
  go_loopw [3, 11] (fun v i wr => ∃ k : Nat, k ≤ l.length ∧ i = .int .i64 k ∧ Own8 w.heap.size w wr v (veil (l.take k))) (fun _ i _ => (l.length - intOf i).toNat)
  case atStart => exact ⟨0, by omega, rfl, H1.out⟩
  case round =>
    obtain ⟨k, hk, rfl, ho⟩ := hrel
    have HO := Lib.hid ho
    clear ho
    by_cases hlt : k < l.length
    · obtain ⟨b, o, rfl, _⟩ := HC.out.addr (by omega)
      have hcell := (HC.out.old HO.out.below).at k hlt
      have hy := HC.out.1.getD k
      have hlen := veil_take_le l k
      have Hstep := Lib.hid (veil_take_succ l k hlt)
      generalize l.getD k 0 = y at *
      generalize veil (l.take k) = xs at *
      by_cases h80 : y = 80
      · have hvb : vb y = [81, 0] := by simp [vb, h80]
        have Hvb := Lib.hid hvb
        clear hvb
        subst h80
        go_wp2_with (at_builtin; refine wpList_append8 _ rfl _ _ 22 22 rfl 5 Tryd.underlying22 Tryd.info8 _ xs rfl (HO.out.alloc _).base _ _ [81, 0] rfl (Src.lit8 wr [81, 0] (by intro x hx; simp at hx; omega) Tryd.underlying22 2 rfl) (by simp; omega) (xs ++ [81, 0]) rfl ?_)
        intro v1 w2 hg
        have HO1 := Lib.hid ((HO.out.alloc _).grew hg (by rw [← Hvb.out]; exact HO.out.bytes.append (vb_bytes (by omega))))
        clear hg
        go_wp2_with fail
        go_roundw
        case rel => exact ⟨k + 1, by omega, by go_num, by rw [Hstep.out, Hvb.out]; exact HO1.out⟩
        case measure => simp [intOf]; omega
      · by_cases h81 : y = 81
        · have hvb : vb y = [81, 1] := by simp [vb, h81]
          have Hvb := Lib.hid hvb
          clear hvb
          subst h81
          go_wp2_with (at_builtin; refine wpList_append8 _ rfl _ _ 22 22 rfl 5 Tryd.underlying22 Tryd.info8 _ xs rfl (HO.out.alloc _).base _ _ [81, 1] rfl (Src.lit8 wr [81, 1] (by intro x hx; simp at hx; omega) Tryd.underlying22 2 rfl) (by simp; omega) (xs ++ [81, 1]) rfl ?_)
          intro v1 w2 hg
          have HO1 := Lib.hid ((HO.out.alloc _).grew hg (by rw [← Hvb.out]; exact HO.out.bytes.append (vb_bytes (by omega))))
          clear hg
          go_wp2_with fail
          go_roundw
          case rel => exact ⟨k + 1, by omega, by go_num, by rw [Hstep.out, Hvb.out]; exact HO1.out⟩
          case measure => simp [intOf]; omega
        · have hvb : vb y = [y] := by simp [vb, h81, h80]
          have e80 : (y == 80) = false := by simp [h80]
          have e81 : (y == 81) = false := by simp [h81]
          have Hvb := Lib.hid hvb
          clear hvb h80 h81
          go_wp2_with (at_builtin; refine wpList_append8 _ rfl _ _ 22 22 rfl 5 Tryd.underlying22 Tryd.info8 _ xs rfl (HO.out.alloc _).base _ _ [y] rfl (Src.lit8 wr [y] (by intro x hx; simp at hx; omega) Tryd.underlying22 1 rfl) (by simp; omega) (xs ++ [y]) rfl ?_)
          intro v1 w2 hg
          have HO1 := Lib.hid ((HO.out.alloc _).grew hg (by rw [← Hvb.out]; exact HO.out.bytes.append (vb_bytes (by omega))))
          clear hg
          go_wp2_with fail
          go_roundw
          case rel => exact ⟨k + 1, by omega, by go_num, by rw [Hstep.out, Hvb.out]; exact HO1.out⟩
          case measure => simp [intOf]; omega
    · obtain rfl : k = l.length := by omega
      have h := HO.out
      rw [List.take_length] at h
      clear HO
      obtain ⟨a1, cap1, rfl⟩ := h.shape
      have HO := Lib.hid h
      clear h
      go_wp2_with fail
      go_ret
      exact HO.out.newB

set_option maxHeartbeats 1000000 in
theorem rveil_any (l : List Int) (a : Option Addr) (n cap : Nat) (w : World) (hc : Cells8 w a l) (hn : n = l.length) (hl : l.length ≤ 1000000000) :
    Calls Tryd.prog 50 #[.slice a n cap] w (NewB (veil l) w) := by
  subst hn
  have HC := Lib.hid hc
  clear hc
  have H1 : Hid (Own8 w.heap.size w w (.slice none 0 0) []) := Lib.hid Own8.nil
  go_enter Tryd.func50, Tryd.ntmps50
  go_wp2_with fail
  go_loopw [3, 4] (fun v i wr => ∃ k : Nat, k ≤ l.length ∧ i = .int .i64 k ∧ Own8 w.heap.size w wr v (veil (l.take k))) (fun _ i _ => (l.length - intOf i).toNat)
  case atStart => exact ⟨0, by omega, rfl, H1.out⟩
  case round =>
    obtain ⟨k, hk, rfl, ho⟩ := hrel
    have HO := Lib.hid ho
    clear ho
    by_cases hlt : k < l.length
    · obtain ⟨b, o, rfl, _⟩ := HC.out.addr (by omega)
      have hcell := (HC.out.old HO.out.below).at k hlt
      have hy := HC.out.1.getD k
      have hlen := veil_take_le l k
      have Hstep := Lib.hid (veil_take_succ l k hlt)
      generalize l.getD k 0 = y at *
      generalize veil (l.take k) = xs at *
      by_cases h80 : y = 80
      · have Hvb := Lib.hid (show vb y = [81, 0] by simp [vb, h80])
        subst h80
        go_wp2_with (at_builtin; refine wpList_append8 _ rfl _ _ 22 22 rfl 5 Tryd.underlying22 Tryd.info8 _ xs rfl (HO.out.alloc _).base _ _ [81, 0] rfl (Src.lit8 wr [81, 0] (by intro x hx; simp at hx; omega) Tryd.underlying22 2 rfl) (by simp; omega) (xs ++ [81, 0]) rfl ?_)
        intro v1 w2 hg
        have HO1 := Lib.hid ((HO.out.alloc _).grew hg (by rw [← Hvb.out]; exact HO.out.bytes.append (vb_bytes (by omega))))
        clear hg
        go_wp2_with fail
        go_roundw
        case rel => exact ⟨k + 1, by omega, by go_num, by rw [Hstep.out, Hvb.out]; exact HO1.out⟩
        case measure => simp [intOf]; omega
      · by_cases h81 : y = 81
        · have Hvb := Lib.hid (show vb y = [81, 1] by simp [vb, h81])
          subst h81
          go_wp2_with (at_builtin; refine wpList_append8 _ rfl _ _ 22 22 rfl 5 Tryd.underlying22 Tryd.info8 _ xs rfl (HO.out.alloc _).base _ _ [81, 1] rfl (Src.lit8 wr [81, 1] (by intro x hx; simp at hx; omega) Tryd.underlying22 2 rfl) (by simp; omega) (xs ++ [81, 1]) rfl ?_)
          intro v1 w2 hg
          have HO1 := Lib.hid ((HO.out.alloc _).grew hg (by rw [← Hvb.out]; exact HO.out.bytes.append (vb_bytes (by omega))))
          clear hg
          go_wp2_with fail
          go_roundw
          case rel => exact ⟨k + 1, by omega, by go_num, by rw [Hstep.out, Hvb.out]; exact HO1.out⟩
          case measure => simp [intOf]; omega
        · have Hvb := Lib.hid (show vb y = [y] by simp [vb, h80, h81])
          have e80 : (y == 80) = false := by simp [h80]
          have e81 : (y == 81) = false := by simp [h81]
          clear h80 h81
          go_wp2_with (at_builtin; refine wpList_append8 _ rfl _ _ 22 22 rfl 5 Tryd.underlying22 Tryd.info8 _ xs rfl (HO.out.alloc _).base _ _ [y] rfl (Src.lit8 wr [y] (by intro x hx; simp at hx; omega) Tryd.underlying22 1 rfl) (by simp; omega) (xs ++ [y]) rfl ?_)
          intro v1 w2 hg
          have HO1 := Lib.hid ((HO.out.alloc _).grew hg (by rw [← Hvb.out]; exact HO.out.bytes.append (vb_bytes (by omega))))
          clear hg
          go_wp2_with fail
          go_roundw
          case rel => exact ⟨k + 1, by omega, by go_num, by rw [Hstep.out, Hvb.out]; exact HO1.out⟩
          case measure => simp [intOf]; omega
    · obtain rfl : k = l.length := by omega
      have h := HO.out
      rw [List.take_length] at h
      clear HO
      obtain ⟨a1, cap1, rfl⟩ := h.shape
      have HO := Lib.hid h
      clear h
      go_wp2_with fail
      go_ret
      exact HO.out.newB
end Go.Proofs.YtondgejbmoiggaaDoor
