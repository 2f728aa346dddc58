import Derived.Test.YtbhdlclaooohfaaGreatDoorEvF
import Derived.Test.YtbhdlclaooohfaaGreatDoorSl
/- Envel: told, and the library's Grow and Concat of bytes. -/
namespace Go.Proofs.YtbhdlclaooohfaaGreatDoor
open Go.Maps Go.Shelf Go.Proofs.YtbhdlclaooohfaaGreatDoor.Ad Go.ChangeShapes Go.WideShapes Go.ChangeAt Go.RowKit
set_option linter.unusedVariables false
set_option linter.unusedSimpArgs false

theorem owns_cut {w : World} {base : Nat} {e : TypeId} {size g n cap m : Nat} {xs : List Value} (h : w.ownsRow base e size (.slice (some ⟨g, 0, none⟩) n cap) n xs) (hm : m ≤ n) : w.ownsRow base e size (.slice (some ⟨g, 0, none⟩) m cap) m (xs.take (m * size)) := by
  have hmul : m * size ≤ n * size := Nat.mul_le_mul_right size hm
  refine ⟨by rw [List.length_take, h.1]; omega, ?_⟩
  rcases h.2 with ⟨h1, _⟩ | ⟨g', c, cur, hv, h1, h2, h3, h4, h5, h6⟩
  · simp at h1
  · simp only [Value.slice.injEq, Option.some.injEq, Addr.mk.injEq, and_true, true_and] at hv
    obtain ⟨rfl, rfl⟩ := hv
    exact .inr ⟨g, cap, cur, rfl, h1, h2, by omega, h4, h5, by rw [← h6, List.take_take, Nat.min_eq_left hmul]⟩
theorem u8info : (Tryz.prog.info? 5).map (fun i => (i.zero, i.size, i.bytes)) = some (some (.int .u8 0), 1, 1) := by kernel_rfl
theorem u8s_zeros (m : Nat) : u8s (List.replicate m 0) = List.replicate m (.int .u8 0) := by simp
theorem wpList_zeros8 (w : World) {ops : Array Oper} {rest : List Oper} {o : Oper} {a : Act} {Q : Exit → Act → World → Prop} (hgd : o.guard = none) (s x : Operand)
    (ho : o.op = .call { callee := .builtin .append, args := #[s, x], argTypes := #[22, 3] }) (hs : a.eval s = .slice none 0 0)
    (mI : Int) (m : Nat) (hmI : mI = (m : Int)) (hx : a.eval x = .int .i64 mI) (hm : 0 < m) (hbytes : m ≤ 100000000)
    (h : ∀ g cap w', Own8 w.heap.size w w' (.slice (some ⟨g, 0, none⟩) 0 cap) [] → m ≤ cap → 0 < cap → wpList Tryz.prog ops Q rest (a.put o.dst (.slice (some ⟨g, 0, none⟩) m cap)) w') : wpList Tryz.prog ops Q (o :: rest) a w := by
  obtain ⟨i0, hi1, hi2, hi3, hi4⟩ := info_parts u8info
  refine wpList_append_zeros w hgd s x _ _ ho w.heap.size 5 i0 (.int .u8 0) 1 Tryz.underlying22 Tryz.underlying3 hi1 hi2 hi3 hi4 rfl rfl (.slice none 0 0) 0 [] hs (World.ownsRow_nil _ _ _ _) mI m hmI hx hm (by omega) (by omega) (Nat.le_refl _) ?_
  intro v' w' h1 h2 h3
  have h1' := h1
  rcases h1.2 with ⟨_, hz⟩ | ⟨g, c, cur, hv, hg, hw, hnc, hcm, hcs, htk⟩
  · omega
  · rw [Nat.zero_add] at hv
    subst hv
    rw [Nat.zero_add] at h1 hnc
    refine h g c w' ⟨?_, (Mod.ofGrown h2).toBelow (Nat.le_refl _) (by simp [Value.ownBlock]), (Mod.ofGrown h2).size, Bytes.nil⟩ hnc (by omega)
    have := owns_cut h1 (Nat.zero_le m)
    simpa using this
set_option maxRecDepth 100000 in
set_option maxHeartbeats 1000000 in
theorem grow_any (m : Nat) (w : World) (hm : m ≤ 100000000) :
    Calls Tryz.prog 46 #[.slice none 0 0, .int .i64 m] w fun e w' => ∃ a cap, e = .returned (.slice a 0 cap) ∧ Own8 w.heap.size w w' (.slice a 0 cap) [] := by
  by_cases h0 : m = 0
  · subst h0
    go_enter Tryz.func46, Tryz.ntmps46
    go_wp2_with fail
    go_ret
    exact ⟨none, 0, rfl, Own8.nil⟩
  have hn : (0 : Int) < m := by omega
  have HPos := Lib.hid (show 0 < m by omega)
  have HMm := Lib.hid hm
  clear h0
  go_enter Tryz.func46, Tryz.ntmps46
  go_wp2_with (at_builtin; refine wpList_zeros8 _ rfl _ _ rfl rfl _ m rfl rfl HPos.out HMm.out ?_; intro g c w1 ho hc hc0; have HO := Lib.hid ho; clear ho)
  go_ret
  exact ⟨_, _, rfl, HO.out⟩
def catK (l1 l2 : List Int) (k : Nat) : List Int := if k = 0 then [] else if k = 1 then l1 else l1 ++ l2
theorem catK0 (l1 l2 : List Int) : catK l1 l2 0 = [] := rfl
theorem catK1 (l1 l2 : List Int) : catK l1 l2 1 = l1 := rfl
theorem catK2 (l1 l2 : List Int) : catK l1 l2 2 = l1 ++ l2 := rfl
theorem sizeSl : ∀ w, (Go.sizeOf 22).run Tryz.prog w = .ok 1 w := Tryz.sizeOf22
set_option maxRecDepth 100000 in
set_option maxHeartbeats 4000000 in
theorem concat_any (w : World) (g : Nat) (a1 a2 : Option Addr) (n1 n2 c1 c2 : Nat) (l1 l2 : List Int) (hg : w.heap[g]? = some (.cells #[.slice a1 n1 c1, .slice a2 n2 c2] 22 (0, 0))) (h1 : Cells8 w a1 l1) (h2 : Cells8 w a2 l2) (hn1 : n1 = l1.length) (hn2 : n2 = l2.length) (hl1 : l1.length ≤ 1000000) (hl2 : l2.length ≤ 1000000) :
    Calls Tryz.prog 26 #[.slice (some ⟨g, 0, none⟩) 2 2] w (NewB (l1 ++ l2) w) := by
  have k0 := blk_cell hg 0
  have k1 := blk_cell hg 1
  have HG := Lib.hid hg
  have H1 := Lib.hid h1
  have H2 := Lib.hid h2
  have HN1 := Lib.hid hn1
  have HN2 := Lib.hid hn2
  have HL1 := Lib.hid hl1
  have HL2 := Lib.hid hl2
  have hb1 : n1 ≤ 1000000 := by omega
  have hb2 : n2 ≤ 1000000 := by omega
  clear hg h1 h2 hn1 hn2 hl1 hl2
  unfold NewB
  have hix := fun (i : Nat) (hi : i < 2) => ixa (P := Tryz.prog) 84 22 Tryz.underlying84 1 sizeSl (some ⟨g, 0, none⟩) g 0 2 2 i rfl hi
  have HIx := Lib.hid hix
  clear hix
  go_enter Tryz.func26, Tryz.ntmps26
  go_wp2_with fail
  go_loopw [3, 11] (fun s v wr => ∃ (k m : Nat), s = .int .i64 m ∧ v = .int .i64 k ∧ k ≤ 2 ∧ (m : Int) = (catK l1 l2 k).length ∧ wr = w) (fun s v _ => 2 - (intOf v).toNat)
  case atStart => exact ⟨0, 0, rfl, rfl, by omega, by simp [catK0], rfl⟩
  case round =>
    obtain ⟨k, m, rfl, rfl, hk, hm, rfl⟩ := hrel
    rcases (show k = 0 ∨ k = 1 ∨ k = 2 by omega) with rfl | rfl | rfl
    · have hm0 : m = 0 := by rw [catK0] at hm; simpa using hm
      subst hm0
      clear hm
      go_wp2_with fail
      go_roundw
      case rel => exact ⟨1, n1, by go_num, by go_num, by omega, by rw [catK1, HN1.out], trivial⟩
      case measure => simp [intOf]
    · have hm0 : m = n1 := by rw [catK1, ← HN1.out] at hm; omega
      subst hm0
      clear hm
      go_wp2_with fail
      go_roundw
      case rel => exact ⟨2, m + n2, by go_num, by go_num, by omega, by rw [catK2, List.length_append, ← HN1.out, ← HN2.out], trivial⟩
      case measure => simp [intOf]
    · have hm0 : m = n1 + n2 := by rw [catK2, List.length_append, ← HN1.out, ← HN2.out] at hm; omega
      have HM := Lib.hid hm0
      clear hm hm0
      have hm2 : m ≤ 2000000 := by rw [HM.out]; omega
      have HGr := Lib.hid (grow_any m wr (by omega))
      go_wp2_with (go_at_call 46; refine HGr.out.mono ?_; rintro e w1 ⟨a, c, rfl, ho⟩; have HO := Lib.hid ho; clear ho)
      go_loopw [6, 27] (fun s v w' => ∃ (k : Nat) (a : Option Addr) (n c : Nat), s = .slice a n c ∧ v = .int .i64 k ∧ k ≤ 2 ∧ n = (catK l1 l2 k).length ∧ Own8 wr.heap.size wr w' (.slice a n c) (catK l1 l2 k)) (fun s v _ => 2 - (intOf v).toNat)
      case atStart => exact ⟨0, a, 0, c, rfl, rfl, by omega, rfl, HO.out⟩
      case round =>
        obtain ⟨k, a, n, c, rfl, rfl, hk, hn, ho⟩ := hrel
        have HO2 := Lib.hid ho
        have HN := Lib.hid hn
        have k0' := (Mod.ofBelow ho.below).cell k0 (by simp)
        have k1' := (Mod.ofBelow ho.below).cell k1 (by simp)
        clear ho hn
        rcases (show k = 0 ∨ k = 1 ∨ k = 2 by omega) with rfl | rfl | rfl
        · have hb : Bytes (catK l1 l2 1) := by rw [catK1]; exact H1.out.1
          have HB := Lib.hid hb
          clear hb hk
          go_wp2_with (at_builtin; refine wpList_append8 _ rfl _ _ 22 22 rfl 5 Tryz.underlying22 Tryz.info8 _ (catK l1 l2 0) rfl HO2.out.base _ _ l1 rfl (Src.of8 (H1.out.mod (Mod.ofBelow HO2.out.below) (by simp)) Tryz.underlying22 _ _ HN1.out) (by have := HL1.out; have := HL2.out; simp [catK]; omega) (catK l1 l2 1) rfl ?_)
          intro v1 w2 hg
          have ho2 := HO2.out.grew hg HB.out
          obtain ⟨a', c', rfl⟩ := ho2.shape
          have HO3 := Lib.hid ho2
          clear ho2 hg
          obtain ⟨n', hn'⟩ : ∃ n', (catK l1 l2 1).length = n' := ⟨_, rfl⟩
          rw [hn']
          have HN' := Lib.hid hn'.symm
          rw [hn'] at HO3
          clear hn'
          go_wp2_with fail
          go_roundw
          case rel => exact ⟨1, a', n', c', rfl, by go_num, by omega, HN'.out, HO3.out⟩
          case measure => simp [intOf]
        · have hb : Bytes (catK l1 l2 2) := by rw [catK2]; exact H1.out.1.append H2.out.1
          have HB := Lib.hid hb
          clear hb hk
          go_wp2_with (at_builtin; refine wpList_append8 _ rfl _ _ 22 22 rfl 5 Tryz.underlying22 Tryz.info8 _ (catK l1 l2 1) rfl HO2.out.base _ _ l2 rfl (Src.of8 (H2.out.mod (Mod.ofBelow HO2.out.below) (by simp)) Tryz.underlying22 _ _ HN2.out) (by have := HL1.out; have := HL2.out; simp [catK]; omega) (catK l1 l2 2) rfl ?_)
          intro v1 w2 hg
          have ho2 := HO2.out.grew hg HB.out
          obtain ⟨a', c', rfl⟩ := ho2.shape
          have HO3 := Lib.hid ho2
          clear ho2 hg
          obtain ⟨n', hn'⟩ : ∃ n', (catK l1 l2 2).length = n' := ⟨_, rfl⟩
          rw [hn']
          have HN' := Lib.hid hn'.symm
          rw [hn'] at HO3
          clear hn'
          go_wp2_with fail
          go_roundw
          case rel => exact ⟨2, a', n', c', rfl, by go_num, by omega, HN'.out, HO3.out⟩
          case measure => simp [intOf]
        · go_wp2_with fail
          go_ret
          have h := HO2.out
          rw [catK2] at h
          have hn := HN.out
          rw [catK2] at hn
          subst hn
          exact ⟨a, c, rfl, h.own, h.below⟩
end Go.Proofs.YtbhdlclaooohfaaGreatDoor

/- Envel: told, as it is written. -/
namespace Go.Proofs.YtbhdlclaooohfaaGreatDoor
open Go.Maps Go.Shelf Go.Proofs.YtbhdlclaooohfaaGreatDoor.Ad Go.ChangeShapes Go.WideShapes Go.ChangeAt Go.RowKit
set_option linter.unusedVariables false
set_option linter.unusedSimpArgs false

/-- a job whose fields fit -/
structure TightJ (j : Jb) : Prop where
  id : 1 ≤ j.id ∧ j.id ≤ 1099511627776
  arr : 0 ≤ j.arr ∧ j.arr ≤ 4503599627370496
  fl : j.fl.size ≤ 64
  fd : j.fd.size ≤ 64
  n : 1 ≤ j.to.length ∧ j.to.length ≤ 20
  to : ∀ t ∈ j.to, (1 ≤ t.user ∧ t.user ≤ 999) ∧ t.l.size ≤ 64 ∧ t.d.size ≤ 64
  body : j.body.length ≤ 32768
  sn : j.sts.length = j.to.length
  sts : ∀ s ∈ j.sts, stB s = true
theorem goodB_len {l d : List Int} (h : goodB l d = true) : l.length ≤ 64 ∧ d.length ≤ 64 := by
  unfold goodB domOK at h
  simp only [Bool.and_eq_true, decide_eq_true_eq] at h
  exact ⟨h.1.1.2, h.2.2⟩
theorem isEmpty_size {l : ByteArray} (h : l.toList.isEmpty = true) : l.size = 0 := by
  have h1 : l.toList = [] := by simpa using h
  have h2 : l.toList.length = 0 := by rw [h1]; rfl
  rw [Lib.toList_data l] at h2
  simpa using h2
theorem fromB_len {l d : ByteArray} (h : fromB l d = true) : l.size ≤ 64 ∧ d.size ≤ 64 := by
  unfold fromB at h
  rw [Bool.or_eq_true, Bool.and_eq_true] at h
  rcases h with ⟨h1, h2⟩ | h
  · have := isEmpty_size h1; have := isEmpty_size h2; omega
  · have := goodB_len h
    rw [nums_length, nums_length] at this
    exact this
theorem tight {j : Jb} (h : goodJ j = true) : TightJ j := by
  rw [goodJ_eq] at h
  simp only [Bool.and_eq_true, btB_iff, decide_eq_true_eq] at h
  obtain ⟨h1, h2, h3, h4, h5, h6, h7⟩ := h
  unfold tgsB at h4
  simp only [Bool.and_eq_true, btB_iff] at h4
  obtain ⟨h8, h9, _⟩ := h4
  have h3' := fromB_len h3
  refine ⟨h1, h2, h3'.1, h3'.2, by omega, ?_, by omega, by omega, ?_⟩
  · intro t ht
    have := List.all_eq_true.1 h9 t ht
    unfold tgB at this
    rw [Bool.and_eq_true, btB_iff] at this
    have h10 := goodB_len this.2
    rw [nums_length, nums_length] at h10
    exact ⟨this.1, h10⟩
  · intro s hs
    cases hb : stB s with
    | true => rfl
    | false =>
      have : (j.sts.any fun s => !stB s) = true := List.any_eq_true.2 ⟨s, hs, by simp [hb]⟩
      rw [this] at h6; cases h6
def tgW (t : Tg) : List Int := be t.user 2 ++ mbL t.l t.d
theorem tgW_len (t : Tg) : (tgW t).length = 10 + t.l.size + t.d.size := by unfold tgW; rw [List.length_append, be_length, mbL_len]; omega
theorem tgW_M (t : Tg) : tgW t = tgL (tgM t) := by simp [tgW, mbL, tgL, tgM]
def frontW (j : Jb) : List Int := be j.id 8 ++ (be j.arr 8 ++ (mbL j.fl j.fd ++ be j.to.length 1))
theorem hdL_W (j : Jb) : hdL (jbE j) = frontW j ++ j.to.flatMap tgW := by
  unfold hdL jbE frontW mbL
  simp only [List.length_map, List.flatMap_map, List.append_assoc]
  rw [show (fun a => tgL (tgM a)) = tgW from funext fun t => (tgW_M t).symm]
theorem flat_len {xs : List Tg} (h : ∀ t ∈ xs, (1 ≤ t.user ∧ t.user ≤ 999) ∧ t.l.size ≤ 64 ∧ t.d.size ≤ 64) : (xs.flatMap tgW).length ≤ 138 * xs.length := by
  induction xs with
  | nil => simp
  | cons x xs ih =>
    have h1 := ih (fun t ht => h t (by simp [ht]))
    have h2 := h x (by simp)
    rw [List.flatMap_cons, List.length_append, tgW_len, List.length_cons]; omega
theorem frontW_len {j : Jb} (h : TightJ j) : (frontW j).length ≤ 200 := by
  unfold frontW
  have := h.fl; have := h.fd
  simp only [List.length_append, be_length, mbL_len]; omega
theorem hdL_len {j : Jb} (h : TightJ j) : (hdL (jbE j)).length ≤ 3000 := by
  rw [hdL_W, List.length_append]
  have h1 := flat_len h.to
  have h2 := frontW_len h
  have h3 := h.n.2
  omega
theorem mbL_bytes (l d : ByteArray) : Bytes (mbL l d) := by
  unfold mbL txL
  exact ((be_bytes _ _).append (nums_bytes _)).append ((be_bytes _ _).append (nums_bytes _))
theorem hdL_bytes (j : Jb) : Bytes (hdL (jbE j)) := by
  rw [hdL_W]
  refine Bytes.append ?_ ?_
  · unfold frontW
    exact (be_bytes _ _).append ((be_bytes _ _).append ((mbL_bytes _ _).append (be_bytes _ _)))
  · intro x hx
    obtain ⟨t, _, ht⟩ := List.mem_flatMap.1 hx
    exact ((be_bytes _ _).append (mbL_bytes _ _)) x ht
set_option maxRecDepth 100000 in
set_option maxHeartbeats 4000000 in
theorem told_w (w : World) (j : Jb) (p : JA) (h : JobAt w j p) (ht : TightJ j) : Calls Tryz.prog 28 #[.agg (jbC j p)] w (NewB (hdL (jbE j)) w) := by
  have hrow := heap_alloc_new w (.cells (jbC j p) 29)
  have hsz : (w.alloc (.cells (jbC j p) 29)).heap.size = w.heap.size + 1 := by simp
  have h0 : Hid (SBR w.heap.size w ((w.alloc (.cells (jbC j p) 29)).alloc (.cells #[.slice none 0 0] 113)) (w.heap.size + 1) (.slice none 0 0) [] w.heap.size (jbC j p) 29) := Lib.hid (by
    have hn := Snk.new (w.alloc (.cells (jbC j p) 29))
    rw [hsz] at hn
    exact ⟨⟨hn, by omega, by simp [Value.ownBlock], (((Mod.refl [] w).alloc _).alloc _).toBelow (Nat.le_refl _) (by simp), by simp; omega⟩, ((Mod.refl [] _).alloc _).row hrow (by simp), Nat.le_refl _, by omega, by decide⟩)
  have hid := ht.id
  have harr := ht.arr
  have hn20 := ht.n
  have u0 := u64_nat (show 0 ≤ j.id by omega) (show j.id < 18446744073709551616 by omega)
  have u1 := u64_nat harr.1 (show j.arr < 18446744073709551616 by omega)
  have u2 := u64_nat (show (0 : Int) ≤ (j.to.length : Int) by omega) (show (j.to.length : Int) < 18446744073709551616 by omega)
  have HT := Lib.hid ht
  have HJ := Lib.hid h
  have HSz := Lib.hid hsz
  have HW := Lib.hid (hdL_W j)
  clear hrow h ht hsz
  unfold NewB
  go_enter Tryz.func28, Tryz.ntmps28
  go_wp2_with fail
  refine (newSink_any _).mono ?_
  rintro e w1 ⟨rfl, hw1⟩
  rw [HSz.out]
  have h1 := h0.out
  rw [← hw1] at h1
  have HS1 := Lib.hid h1
  have c1 := blk_cell h1.row 0
  clear hw1 h1 h0
  go_wp2_with fail
  refine (HS1.out.u j.id 8 (by omega) (by omega) (holds_iff.2 ⟨by omega, by show j.id < 256 ^ 8; omega⟩) (by simp)).mono ?_
  rintro e w2 ⟨rfl, v2, h2⟩
  have HS2 := Lib.hid h2
  have c2 := blk_cell h2.row 1
  clear h2
  go_wp2_with fail
  refine (HS2.out.u j.arr 8 (by omega) (by omega) (holds_iff.2 ⟨by omega, by show j.arr < 256 ^ 8; omega⟩) (by simp [be_length])).mono ?_
  rintro e w3 ⟨rfl, v3, h3⟩
  have HS3 := Lib.hid h3
  have c3 := blk_cell h3.row 2
  have c3' := blk_cell h3.row 3
  clear h3
  go_wp2_with fail
  refine (putMailbox_any w3 _ v3 _ HS3.out.sb.snk j.fl j.fd (by have := HT.out.fl; omega) (by have := HT.out.fd; omega) (by simp [be_length])).mono ?_
  rintro e w4 ⟨rfl, v4, hp4⟩
  have h4 := HS3.out.puts hp4
  have HS4 := Lib.hid h4
  have c4 := blk_cell h4.row 4
  clear h4 hp4
  go_wp2_with fail
  refine (HS4.out.u j.to.length 1 (by omega) (by omega) (holds_iff.2 ⟨by omega, by show (j.to.length : Int) < 256 ^ 1; omega⟩) (by have := HT.out.fl; have := HT.out.fd; simp [be_length, mbL_len]; omega)).mono ?_
  rintro e w5 ⟨rfl, v5, h5⟩
  have e5 : (((([] ++ be j.id (8 : Int).toNat) ++ be j.arr (8 : Int).toNat) ++ mbL j.fl j.fd) ++ be j.to.length (1 : Int).toNat) = frontW j := by simp [frontW]
  rw [e5] at h5
  have HS5 := Lib.hid h5.sb
  have c5 := blk_cell h5.row 4
  have HJ5 := Lib.hid (HJ.out.quiet (Mod.ofBelow h5.sb.below))
  clear h5 e5 c1 c2 c3 c3' c4
  have HFl := Lib.hid (frontW_len HT.out)
  generalize hfr : frontW j = fr at HS5 HW HFl
  have HFr := Lib.hid hfr
  clear hfr
  generalize hs : w.heap.size + 1 = s at *
  have HSe := Lib.hid hs
  clear hs
  go_wp2_with fail
  go_loopw [30] (fun u wr => ∃ (k : Nat) (v : Value), u = .int .i64 k ∧ k ≤ j.to.length ∧ SB w.heap.size w wr s v (fr ++ (j.to.take k).flatMap tgW)) (fun u _ => j.to.length - (intOf u).toNat)
  case atStart => exact ⟨0, v5, rfl, by omega, by simpa using HS5.out⟩
  case round =>
    obtain ⟨k, v, rfl, hk, hsb⟩ := hrel
    have HSB := Lib.hid hsb
    have hlt0 := hsb.snk.lt
    clear hsb
    by_cases hlt : k < j.to.length
    · have HJr := HJ.out.quiet (Mod.ofBelow HSB.out.below)
      obtain ⟨b, o, ha, -⟩ := HJr.to.addr tgC_size (by decide) (by omega)
      have hto := HJr.to
      rw [ha] at hto
      obtain ⟨k0, k1, k2⟩ := CellsT.row hto k hlt
      have hix := ixa (P := Tryz.prog) 26 39 Tryz.underlying26 3 sizeTg p.ta b o j.to.length p.tc k ha hlt
      obtain ⟨x, hx⟩ : ∃ x, j.to[k] = x := ⟨_, rfl⟩
      have hxs := HT.out.to x (by rw [← hx]; exact List.getElem_mem hlt)
      rw [hx] at k0 k1 k2
      have HNx := Lib.hid (show (fr ++ (j.to.take k).flatMap tgW) ++ tgW x = fr ++ (j.to.take (k + 1)).flatMap tgW by
        rw [List.take_succ_eq_append_getElem hlt, List.flatMap_append, hx]; simp)
      have HLen := Lib.hid (show (fr ++ (j.to.take k).flatMap tgW).length ≤ 4000 by
        have h1 := flat_len (xs := j.to.take k) (fun t ht => HT.out.to t (List.mem_of_mem_take ht))
        have h2 := HFl.out
        rw [List.length_take] at h1
        rw [List.length_append]; omega)
      have ux := u64_nat (show 0 ≤ x.user by omega) (show x.user < 18446744073709551616 by omega)
      have HXs := Lib.hid hxs
      have HB : Hid (SBR w.heap.size w (wr.alloc (.cells (tgC x) 39)) s v (fr ++ (j.to.take k).flatMap tgW) wr.heap.size (tgC x) 39) := Lib.hid ⟨HSB.out.quiet ((Mod.refl [] wr).alloc _), heap_alloc_new wr _, HSB.out.size, by omega, by decide⟩
      clear hx HJr hto hxs ha
      generalize fr ++ (j.to.take k).flatMap tgW = l at *
      go_wp2_with fail
      refine (HB.out.u x.user 2 (by have := HXs.out.1; omega) (by have := HXs.out.1; omega) (holds_iff.2 ⟨by omega, by have := HXs.out.1; show x.user < 256 ^ 2; omega⟩) (by have := HLen.out; omega)).mono ?_
      rintro e w6 ⟨rfl, v6, h6⟩
      have HS6 := Lib.hid h6
      have c6 := blk_cell h6.row 1
      have c6' := blk_cell h6.row 2
      clear h6
      go_wp2_with fail
      refine (putMailbox_any w6 _ v6 _ HS6.out.sb.snk x.l x.d (by have := HXs.out.2.1; omega) (by have := HXs.out.2.2; omega) (by have := HLen.out; rw [List.length_append, be_length]; omega)).mono ?_
      rintro e w7 ⟨rfl, v7, hp7⟩
      have h7 := HS6.out.sb.puts hp7
      have e7 : l ++ be x.user (2 : Int).toNat ++ mbL x.l x.d = l ++ tgW x := by simp [tgW]
      rw [e7, HNx.out] at h7
      have HS7 := Lib.hid h7
      clear h7 hp7 e7
      go_wp2_with fail
      go_roundw
      case rel =>
        exact ⟨k + 1, v7, by go_num, by omega, HS7.out⟩
      case measure => simp [intOf]; omega
    · have hkl : k = j.to.length := by omega
      have HE := Lib.hid (show fr ++ (j.to.take k).flatMap tgW = hdL (jbE j) by rw [hkl, List.take_length, HW.out])
      rw [HE.out] at HSB
      have HLen := Lib.hid (hdL_len HT.out)
      go_wp2_with fail
      refine (sinkBytes_any _ _ _ _ HSB.out.snk (by have := HLen.out; omega)).mono ?_
      rintro e w8 ⟨a8, c8, rfl, ho8, hb8⟩
      have HO8 := Lib.hid (owns_rebase ho8 (B := w.heap.size) (fun k hk => Nat.le_trans HSB.out.size (ho8.lt k hk).1))
      have HB8 := Lib.hid (HSB.out.below.trans (hb8.mono HSB.out.size))
      clear ho8 hb8
      go_wp2_with fail
      go_ret
      exact ⟨a8, c8, rfl, HO8.out, HB8.out⟩
end Go.Proofs.YtbhdlclaooohfaaGreatDoor

