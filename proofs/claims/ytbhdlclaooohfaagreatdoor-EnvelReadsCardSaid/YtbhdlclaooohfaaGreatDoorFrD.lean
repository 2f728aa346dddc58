import Derived.Test.YtbhdlclaooohfaaGreatDoorBlk
import Derived.Test.YtbhdlclaooohfaaGreatDoorFrB
import Derived.Deep.RegionLaw
/- The reader of veiled bytes: next, upTo. -/
namespace Go.Proofs.YtbhdlclaooohfaaGreatDoor
open Go.ChangeShapes Go.WideShapes Go.ChangeAt Go.RowKit
set_option linter.unusedVariables false
set_option linter.unusedSimpArgs false

theorem step_append8 {P : Program} (w : World) {ops : Array Oper} {o : Oper} {a : Act} {K : Act → World → Prop} {Q : Exit → Act → World → Prop} {E : Prop} (hgd : o.guard = none) (s x : Operand) (t tx : TypeId)
    (ho : o.op = .call { callee := .builtin .append, args := #[s, x], argTypes := #[t, tx] })
    (e : TypeId) (ht : P.underlying t = some (.slice e)) (hi : (P.info? e).map (fun i => (i.zero, i.size, i.bytes)) = some (some (.int .u8 0), 1, 1))
    (v : Value) (l : List Int) (hs : a.eval s = v) (hown : w.ownsRow 0 e 1 v l.length (u8s l))
    (xv : Value) (m : Nat) (r : List Int) (hx : a.eval x = xv) (hsrc : Src P 1 tx xv m (u8s r) w) (h63 : l.length + r.length ≤ 140737488355328) (l' : List Int) (hl' : l' = l ++ r)
    (h : ∀ v' w', Grew e w v l' v' w' → K (a.put o.dst v') w') : if Region.wanted o (yielded ops a.tmps) = true then Oper.wp P o a w K Q else E := by
  have hw : Region.wanted o (yielded ops a.tmps) = true := by simp [Region.wanted, hgd]
  rw [if_pos hw]
  obtain ⟨i, hi1, hi2, hi3, hi4⟩ := info_parts hi
  have hm : r.length = m := by simpa using hsrc.newsLen
  subst hm
  subst hl'
  obtain ⟨v', w', hr, h1, h2, h3⟩ := run_append_src (P := P) w 0 t tx o.type e i _ 1 1 ht hi1 hi2 hi3 hi4 rfl v _ _ hown xv _ _ hsrc (by simp only [maxLen]; omega) (by omega) (Nat.zero_le _)
  unfold Oper.wp execOp
  simp only [ho, resolve, invoke, builtin, Sem.run_bind, Sem.run_pure, Result.andThen_ok, List.map_toArray, List.map_cons, List.map_nil, hs, hx, hr]
  exact h v' w' ⟨by simpa using h1, Mod.ofGrown h2, h3⟩

theorem Src.lit8' {P : Program} (w : World) (l : List Int) (hb : Bytes l) {tx e : TypeId} (hk : P.underlying tx = some (.slice e)) (n : Nat) (hn : n = l.length) :
    Src P 1 tx (.slice (some ⟨w.heap.size, 0, none⟩) n n) n (u8s l) (w.alloc (.cells (u8s l).toArray 5)).drew :=
  Src.of8 ((Cells8.newRow w l hb _ _).mod ((Mod.refl [] _).drew) (by simp)) hk n n hn

/-- the reader at block g: what it reads, its place, what it read -/
structure Unv (w0 w : World) (g : Nat) (b : Value) (at_ : Nat) (v : Value) (xs : List Int) : Prop where
  blk : w.heap[g]? = some (.cells #[b, .int .i64 at_, v] 94 (0, 0))
  own : Own8 w0.heap.size w0 w v xs
  gB : w0.heap.size ≤ g
  ne : v.ownBlock ≠ some g
theorem Unv.lt {w0 w : World} {g : Nat} {b : Value} {at_ : Nat} {v : Value} {xs : List Int} (h : Unv w0 w g b at_ v xs) : g < w.heap.size := (Array.getElem?_eq_some_iff.1 h.blk).1
theorem Unv.quiet {w0 w w1 : World} {g : Nat} {b : Value} {at_ : Nat} {v : Value} {xs : List Int} (h : Unv w0 w g b at_ v xs) (hm : Mod [] w w1) : Unv w0 w1 g b at_ v xs :=
  ⟨hm.row h.blk (by simp), h.own.quiet hm, h.gB, h.ne⟩
theorem Unv.grew {w0 w w1 : World} {g : Nat} {b : Value} {at_ : Nat} {v v1 : Value} {xs xs1 : List Int} (h : Unv w0 w g b at_ v xs) (hg : Grew 5 w v xs1 v1 w1) (hb : Bytes xs1) :
    w1.heap[g]? = some (.cells #[b, .int .i64 at_, v] 94 (0, 0)) ∧ Own8 w0.heap.size w0 w1 v1 xs1 ∧ v1.ownBlock ≠ some g := by
  refine ⟨hg.mod.row h.blk (by simpa using h.ne), h.own.grew hg hb, ?_⟩
  intro e
  rcases hg.blk with h1 | h1
  · exact h.ne (by rw [← h1, e])
  · rw [e] at h1; simp at h1; have := h.lt; omega
/-- the fields put anew -/
theorem Unv.put {w0 w1 : World} {g : Nat} {b u2 : Value} {at0 at1 : Nat} {v1 : Value} {xs1 : List Int} (hg : w1.heap[g]? = some (.cells #[b, .int .i64 at0, u2] 94 (0, 0))) (ho : Own8 w0.heap.size w0 w1 v1 xs1) (hB : w0.heap.size ≤ g) (hn : v1.ownBlock ≠ some g) :
    Unv w0 ((w1.setCell ⟨g, 2, none⟩ v1).setCell ⟨g, 1, none⟩ (.int .i64 at1)) g b at1 v1 xs1 := by
  refine ⟨?_, ?_, hB, hn⟩
  · have h1 := blk_set (blk_set hg 2 v1) 1 (.int .i64 at1)
    simpa using h1
  · have hm : Mod [g] w1 ((w1.setCell ⟨g, 2, none⟩ v1).setCell ⟨g, 1, none⟩ (.int .i64 at1)) := (((Mod.refl [g] w1).setCell (p := ⟨g, 2, none⟩) (Or.inl (by simp)) _).setCell (p := ⟨g, 1, none⟩) (Or.inl (by simp)) _)
    exact ho.mod hm (by simpa using hB) (by intro k hk hm; simp at hm; subst hm; exact hn hk)

def NextP (w0 : World) (g : Nat) (b : Value) (er : Int) (at_ : Nat) (xs : List Int) (e : Ending) (w' : World) : Prop :=
  e = .returned (.int .i64 er) ∧ ∃ v, Unv w0 w' g b at_ v xs
def nxA (t : List Int) (at_ : Nat) : Nat := if rdE t = 0 then at_ + rdM t else at_
def nxX (t : List Int) (xs : List Int) : List Int := if rdE t = 0 then xs ++ [rdC t] else xs

theorem Unv.drewN {w0 w : World} {g : Nat} {b : Value} {at_ : Nat} {v : Value} {xs : List Int} (h : Unv w0 w g b at_ v xs) (n : Nat) : Unv w0 (w.drewN n) g b at_ v xs :=
  h.quiet ⟨rfl, rfl, rfl, Nat.le_refl _, fun _ _ _ => rfl⟩
theorem NextP.err {w0 w' : World} {g : Nat} {b v : Value} {at_ : Nat} {xs t : List Int} {er : Int} (hE : rdE t = er) (he : er ≠ 0) (h : Unv w0 w' g b at_ v xs) : NextP w0 g b (rdE t) (nxA t at_) (nxX t xs) (.returned (.int .i64 er)) w' := by
  subst hE
  refine ⟨rfl, v, ?_⟩
  rw [nxA, nxX, if_neg he, if_neg he]
  exact h
theorem NextP.ok {w0 w' : World} {g : Nat} {b v : Value} {at_ m : Nat} {xs t : List Int} {c : Int} (hE : rdE t = 0 ∧ rdM t = m ∧ rdC t = c) (h : Unv w0 w' g b (at_ + m) v (xs ++ [c])) : NextP w0 g b (rdE t) (nxA t at_) (nxX t xs) (.returned (.int .i64 0)) w' := by
  obtain ⟨h1, rfl, rfl⟩ := hE
  refine ⟨by rw [h1], v, ?_⟩
  rw [nxA, nxX, if_pos h1, if_pos h1]
  exact h
theorem drop_getD (l : List Int) (n : Nat) (h : n < l.length) : l.drop n = l.getD n 0 :: l.drop (n + 1) := by
  rw [List.drop_eq_getElem_cons h]; simp [List.getD, h]

set_option maxHeartbeats 2000000 in
theorem next_any (l : List Int) (a : Option Addr) (cap at_ g : Nat) (v : Value) (xs : List Int) (w0 w : World) (hc : Cells8 w0 a l) (hu : Unv w0 w g (.slice a l.length cap) at_ v xs) (hat : at_ ≤ l.length) (hcap : l.length ≤ cap) (hl : l.length ≤ 9223372036854775807) (hx : xs.length ≤ 1000000000) :
    Calls Tryz.prog 70 #[.pointer (some ⟨g, 0, none⟩)] w (NextP w0 g (.slice a l.length cap) (rdE (l.drop at_)) (nxA (l.drop at_) at_) (nxX (l.drop at_) xs)) := by
  have HC := Lib.hid hc
  have HU := Lib.hid hu
  have hc0 := blk_cell hu.blk 0
  have hc1 := blk_cell hu.blk 1
  have hc2 := blk_cell hu.blk 2
  clear hc hu
  by_cases hend : at_ = l.length
  · subst hend
    have HE := Lib.hid (show rdE (l.drop l.length) = 2 by simp [rdE])
    by_cases hcp : cap = l.length
    · subst hcp
      go_enter Tryz.func70, Tryz.ntmps70
      go_wp2_with fail
      go_quiet (fail)
      go_wp2_with fail
      go_ret
      exact NextP.err HE.out (by decide) (HU.out.drewN _)
    · go_enter Tryz.func70, Tryz.ntmps70
      go_wp2_with fail
      go_quiet (fail)
      go_wp2_with fail
      go_ret
      exact NextP.err HE.out (by decide) (HU.out.drewN _)
  have hlt : at_ < l.length := by omega
  clear hend
  obtain ⟨b, o, rfl, _⟩ := HC.out.addr (by omega)
  have hcell := (HC.out.old HU.out.own.below).at at_ hlt
  have HCell : Hid (∀ w', Below w0.heap.size w0 w' → w'.cell? ⟨b, o + at_, none⟩ = some (.int .u8 (l.getD at_ 0))) := Lib.hid fun w' h => (HC.out.old h).at at_ hlt
  have hy := HC.out.1.getD at_
  have Hd := Lib.hid (drop_getD l at_ hlt)
  have hz := HC.out.1.getD (at_ + 1)
  have HCz0 : Hid (at_ + 1 < l.length → Hid (∀ w', Below w0.heap.size w0 w' → w'.cell? ⟨b, o + at_ + 1, none⟩ = some (.int .u8 (l.getD (at_ + 1) 0)))) := Lib.hid fun h => Lib.hid fun w' h' => (HC.out.old h').at (at_ + 1) h
  have Hd2 : Hid (at_ + 1 < l.length → l.drop (at_ + 1) = l.getD (at_ + 1) 0 :: l.drop (at_ + 2)) := Lib.hid fun h => drop_getD l (at_ + 1) h
  have Hd3 : Hid (¬ at_ + 1 < l.length → l.drop (at_ + 1) = []) := Lib.hid fun h => by simp; omega
  have hne : ¬ cap = at_ := by omega
  have hpos : 0 < l.length - at_ := by omega
  generalize l.getD at_ 0 = y at *
  generalize l.getD (at_ + 1) 0 = z at *
  by_cases h80 : y = 80
  · have HE := Lib.hid (show rdE (l.drop at_) = 3 by rw [Hd.out]; simp [rdE, h80])
    subst h80
    go_enter Tryz.func70, Tryz.ntmps70
    go_wp2_with fail
    go_quiet (fail)
    go_wp2_with fail
    go_ret
    exact NextP.err HE.out (by decide) (HU.out.drewN _)
  have e80 : (y == 80) = false := by simp [h80]
  by_cases h81 : y = 81
  · subst h81
    clear h80
    by_cases hl1 : at_ + 1 < l.length
    case neg =>
      have HE := Lib.hid (show rdE (l.drop at_) = 2 by rw [Hd.out, Hd3.out hl1]; simp [rdE])
      have e1 : l.length - at_ = 1 := by omega
      have E1 := Lib.hid e1
      have hb1 : (((l.length - at_ : Nat) : Int) == 1) = true := by rw [e1]; rfl
      clear e1 hl1
      go_enter Tryz.func70, Tryz.ntmps70
      go_wp2_with fail
      go_quiet (fail)
      go_wp2_with fail
      go_ret
      exact NextP.err HE.out (by decide) (HU.out.drewN _)
    have HCellz : Hid (∀ w', Below w0.heap.size w0 w' → w'.cell? ⟨b, o + at_ + 1, none⟩ = some (.int .u8 z)) := HCz0.out hl1
    have hcellz := HCellz.out w HU.out.own.below
    have hb1 : (((l.length - at_ : Nat) : Int) == 1) = false := by rw [beq_eq_false_iff_ne]; omega
    have hp1 : (1 : Int) < ((l.length - at_ : Nat) : Int) := by omega
    by_cases hz1 : 1 < z
    · have HE := Lib.hid (show rdE (l.drop at_) = 3 by rw [Hd.out, Hd2.out hl1]; simp [rdE]; omega)
      go_enter Tryz.func70, Tryz.ntmps70
      go_wp2_with fail
      go_quiet (fail)
      go_wp2_with fail
      go_ret
      exact NextP.err HE.out (by decide) (HU.out.drewN _)
    have HE := Lib.hid (show rdE (l.drop at_) = 0 ∧ rdM (l.drop at_) = 2 ∧ rdC (l.drop at_) = 80 + z by rw [Hd.out, Hd2.out hl1]; simp [rdE, rdM, rdC]; omega)
    have hz01 : z = 0 ∨ z = 1 := by omega
    clear hz1 hz
    rcases hz01 with rfl | rfl
    · have HE2 : Hid (rdE (l.drop at_) = 0 ∧ rdM (l.drop at_) = 2 ∧ rdC (l.drop at_) = 80) := Lib.hid HE.out
      have hwr : IntKind.u8.wrap 80 = 80 := by decide
      clear HE
      go_enter Tryz.func70, Tryz.ntmps70
      go_wp2_with fail
      go_quiet (fail)
      go_wp2_with fail
      have HU2 := Lib.hid (HU.out.drewN nq)
      generalize w.drewN nq = w2 at *
      obtain ⟨av, cv, rfl⟩ := HU2.out.own.shape
      have hd0 := blk_cell HU2.out.blk 0
      have hd1 := blk_cell HU2.out.blk 1
      have hd2 := blk_cell HU2.out.blk 2
      have hcell2 := HCell.out w2 HU2.out.own.below
      have hcellz := HCellz.out w2 HU2.out.own.below
      have HL := Lib.hid (Src.lit8' (P := Tryz.prog) w2 [80] (by intro x hx; simp at hx; omega) Tryz.underlying22 1 rfl)
      have HO2 := Lib.hid (HU2.out.own.alloc (.cells #[.int .u8 80] 5)).drew.base
      have HU3 := Lib.hid (HU2.out.quiet ((Mod.refl [] w2).alloc (.cells #[.int .u8 80] 5)).drew)
      have hda := blk_cell (HU2.out.quiet ((Mod.refl [] w2).alloc (.cells #[.int .u8 80] 5))).blk 2
      go_region_law (refine step_append8 _ rfl _ _ 22 22 rfl 5 Tryz.underlying22 Tryz.info8 _ xs rfl HO2.out _ _ [80] rfl HL.out (by simp; omega) (xs ++ [80]) rfl ?_; intro v1 w3 hg; obtain ⟨hb3, ho3, hn3⟩ := HU3.out.grew hg (HU2.out.own.bytes.append (by intro x hx; simp at hx; omega)); obtain ⟨a1, n1, cap1, rfl⟩ := hg.shape'; have hf1 := blk_cell hb3 1; have hf2 := blk_cell hb3 2; have hz1 := blk_free hb3 1; have hz2 := blk_free hb3 2; have HB3 := Lib.hid hb3; have HO3 := Lib.hid ho3; have HN3 := Lib.hid hn3; clear hg hb3 ho3 hn3)
      all_goals
        go_wp2_with fail
        go_ret
        refine NextP.ok (v := .slice a1 n1 cap1) HE2.out (Unv.put HB3.out HO3.out HU2.out.gB HN3.out)
    · have HE2 : Hid (rdE (l.drop at_) = 0 ∧ rdM (l.drop at_) = 2 ∧ rdC (l.drop at_) = 81) := Lib.hid HE.out
      have hwr : IntKind.u8.wrap 81 = 81 := by decide
      clear HE
      go_enter Tryz.func70, Tryz.ntmps70
      go_wp2_with fail
      go_quiet (fail)
      go_wp2_with fail
      have HU2 := Lib.hid (HU.out.drewN nq)
      generalize w.drewN nq = w2 at *
      obtain ⟨av, cv, rfl⟩ := HU2.out.own.shape
      have hd0 := blk_cell HU2.out.blk 0
      have hd1 := blk_cell HU2.out.blk 1
      have hd2 := blk_cell HU2.out.blk 2
      have hcell2 := HCell.out w2 HU2.out.own.below
      have hcellz := HCellz.out w2 HU2.out.own.below
      have HL := Lib.hid (Src.lit8' (P := Tryz.prog) w2 [81] (by intro x hx; simp at hx; omega) Tryz.underlying22 1 rfl)
      have HO2 := Lib.hid (HU2.out.own.alloc (.cells #[.int .u8 81] 5)).drew.base
      have HU3 := Lib.hid (HU2.out.quiet ((Mod.refl [] w2).alloc (.cells #[.int .u8 81] 5)).drew)
      have hda := blk_cell (HU2.out.quiet ((Mod.refl [] w2).alloc (.cells #[.int .u8 81] 5))).blk 2
      go_region_law (refine step_append8 _ rfl _ _ 22 22 rfl 5 Tryz.underlying22 Tryz.info8 _ xs rfl HO2.out _ _ [81] rfl HL.out (by simp; omega) (xs ++ [81]) rfl ?_; intro v1 w3 hg; obtain ⟨hb3, ho3, hn3⟩ := HU3.out.grew hg (HU2.out.own.bytes.append (by intro x hx; simp at hx; omega)); obtain ⟨a1, n1, cap1, rfl⟩ := hg.shape'; have hf1 := blk_cell hb3 1; have hf2 := blk_cell hb3 2; have hz1 := blk_free hb3 1; have hz2 := blk_free hb3 2; have HB3 := Lib.hid hb3; have HO3 := Lib.hid ho3; have HN3 := Lib.hid hn3; clear hg hb3 ho3 hn3)
      all_goals
        go_wp2_with fail
        go_ret
        refine NextP.ok (v := .slice a1 n1 cap1) HE2.out (Unv.put HB3.out HO3.out HU2.out.gB HN3.out)
  · have HE := Lib.hid (show rdE (l.drop at_) = 0 ∧ rdM (l.drop at_) = 1 ∧ rdC (l.drop at_) = y by rw [Hd.out]; simp [rdE, rdM, rdC, h80, h81])
    have e81 : (y == 81) = false := by simp [h81]
    have e81' : (y != 81) = true := by simp [h81]
    clear h80 h81
    go_enter Tryz.func70, Tryz.ntmps70
    go_wp2_with fail
    go_quiet (fail)
    go_wp2_with fail
    have HU2 := Lib.hid (HU.out.drewN nq)
    generalize w.drewN nq = w2 at *
    obtain ⟨av, cv, rfl⟩ := HU2.out.own.shape
    have hd0 := blk_cell HU2.out.blk 0
    have hd1 := blk_cell HU2.out.blk 1
    have hd2 := blk_cell HU2.out.blk 2
    have hcell2 := HCell.out w2 HU2.out.own.below
    have HL := Lib.hid (Src.lit8' (P := Tryz.prog) w2 [y] (by intro x hx; simp at hx; omega) Tryz.underlying22 1 rfl)
    have HO2 := Lib.hid (HU2.out.own.alloc (.cells #[.int .u8 y] 5)).drew.base
    have HU3 := Lib.hid (HU2.out.quiet ((Mod.refl [] w2).alloc (.cells #[.int .u8 y] 5)).drew)
    have hda := blk_cell (HU2.out.quiet ((Mod.refl [] w2).alloc (.cells #[.int .u8 y] 5))).blk 2
    go_region_law (refine step_append8 _ rfl _ _ 22 22 rfl 5 Tryz.underlying22 Tryz.info8 _ xs rfl HO2.out _ _ [y] rfl HL.out (by simp; omega) (xs ++ [y]) rfl ?_; intro v1 w3 hg; obtain ⟨hb3, ho3, hn3⟩ := HU3.out.grew hg (HU2.out.own.bytes.append (by intro x hx; simp at hx; omega)); obtain ⟨a1, n1, cap1, rfl⟩ := hg.shape'; have hf1 := blk_cell hb3 1; have hf2 := blk_cell hb3 2; have hz1 := blk_free hb3 1; have hz2 := blk_free hb3 2; have HB3 := Lib.hid hb3; have HO3 := Lib.hid ho3; have HN3 := Lib.hid hn3; clear hg hb3 ho3 hn3)
    all_goals
      go_wp2_with fail
      go_ret
      refine NextP.ok (v := .slice a1 n1 cap1) HE.out (Unv.put HB3.out HO3.out HU2.out.gB HN3.out)
end Go.Proofs.YtbhdlclaooohfaaGreatDoor

/- upTo: reading on till there are so many plain bytes. -/
namespace Go.Proofs.YtbhdlclaooohfaaGreatDoor
open Go.ChangeShapes Go.WideShapes Go.ChangeAt Go.RowKit
set_option linter.unusedVariables false
set_option linter.unusedSimpArgs false

/-- the reader stands behind m plain bytes that were read from place i on -/
def Stood (w0 w : World) (g : Nat) (b : Value) (l : List Int) (i m : Nat) : Prop :=
  ∃ v, Unv w0 w g b (i + (rdN (l.drop i) m).j) v (rdN (l.drop i) m).xs
def UpP (w0 : World) (g : Nat) (b : Value) (l : List Int) (i m : Nat) (e : Ending) (w' : World) : Prop :=
  e = .returned (.int .i64 (rdN (l.drop i) m).e) ∧ Stood w0 w' g b l i m

theorem Unv.lenCell {w0 w : World} {g : Nat} {b : Value} {at_ : Nat} {v : Value} {xs : List Int} (h : Unv w0 w g b at_ v xs) : ∃ a cap, v = .slice a xs.length cap ∧ w.cell? ⟨g, 2, none⟩ = some (.slice a xs.length cap) := by
  obtain ⟨a, cap, rfl⟩ := h.own.shape
  exact ⟨a, cap, rfl, blk_cell h.blk 2⟩

theorem stood_step {w0 w' : World} {g : Nat} {b v : Value} {l : List Int} {i m : Nat} (he : (rdN (l.drop i) m).e = 0) (hr : rdE ((l.drop i).drop (rdN (l.drop i) m).j) = 0)
    (h : Unv w0 w' g b (nxA ((l.drop i).drop (rdN (l.drop i) m).j) (i + (rdN (l.drop i) m).j)) v (nxX ((l.drop i).drop (rdN (l.drop i) m).j) (rdN (l.drop i) m).xs)) :
    (rdN (l.drop i) (m + 1)).e = 0 ∧ Stood w0 w' g b l i (m + 1) := by
  rw [nxA, nxX, if_pos hr, if_pos hr] at h
  unfold Stood
  rw [rdN_step _ _ he hr]
  exact ⟨rfl, v, by rw [← Nat.add_assoc]; exact h⟩
theorem stood_halt {w0 w' : World} {g : Nat} {b v : Value} {l : List Int} {i m n : Nat} (he : (rdN (l.drop i) m).e = 0) (hr : ¬ rdE ((l.drop i).drop (rdN (l.drop i) m).j) = 0) (hmn : m < n)
    (h : Unv w0 w' g b (nxA ((l.drop i).drop (rdN (l.drop i) m).j) (i + (rdN (l.drop i) m).j)) v (nxX ((l.drop i).drop (rdN (l.drop i) m).j) (rdN (l.drop i) m).xs)) :
    UpP w0 g b l i n (.returned (.int .i64 (rdE ((l.drop i).drop (rdN (l.drop i) m).j)))) w' := by
  rw [nxA, nxX, if_neg hr, if_neg hr] at h
  have h1 := rdN_halt _ _ he hr
  have h2 : rdN (l.drop i) n = rdN (l.drop i) (m + 1) := rdN_err _ _ _ (by rw [h1]; exact hr) (by omega)
  unfold UpP Stood
  rw [h2, h1]
  exact ⟨rfl, v, h⟩

set_option maxHeartbeats 1000000 in
theorem upTo_any (l : List Int) (a : Option Addr) (cap g i m0 n : Nat) (w0 w : World) (hc : Cells8 w0 a l) (hs : Stood w0 w g (.slice a l.length cap) l i m0) (he : (rdN (l.drop i) m0).e = 0) (hm : m0 ≤ n) (hn : n ≤ 1000000000) (hi : i ≤ l.length) (hcap : l.length ≤ cap) (hl : l.length ≤ 9223372036854775807) :
    Calls Tryz.prog 53 #[.pointer (some ⟨g, 0, none⟩), .int .i64 n] w (UpP w0 g (.slice a l.length cap) l i n) := by
  have HC := Lib.hid hc
  have HS := Lib.hid hs
  have HE := Lib.hid he
  clear hc hs he
  go_enter Tryz.func53, Tryz.ntmps53
  go_wp2_with fail
  go_loopg [] (n - m0) (fun k wr => ∃ m : Nat, k + m = n ∧ (rdN (l.drop i) m).e = 0 ∧ Stood w0 wr g (.slice a l.length cap) l i m)
  case atStart => exact ⟨m0, by omega, HE.out, HS.out⟩
  case round =>
    obtain ⟨m, hk, he, v, hu⟩ := hrel
    have HE := Lib.hid he
    have HU := Lib.hid hu
    obtain ⟨av, cv, rfl, hlen⟩ := hu.lenCell
    have hok := rdN_ok (HC.out.1.drop i) m
    have HLX := Lib.hid (hok.2.2.2 he)
    rw [HLX.out] at hlen
    have hxl := rdN_len_le (HC.out.1.drop i) m
    have hjl := rdN_j_le (HC.out.1.drop i) m
    have hNext := next_any l a cap (i + (rdN (l.drop i) m).j) g _ _ w0 wr HC.out hu (by simp only [List.length_drop] at hjl; omega) hcap hl (by rw [HLX.out]; omega)
    rw [← List.drop_drop] at hNext
    have HN := Lib.hid hNext
    clear he hu hok hNext hxl hjl
    by_cases hlt : m < n
    · by_cases hr : rdE ((l.drop i).drop (rdN (l.drop i) m).j) = 0
      · have HR := Lib.hid hr
        have e0 : (rdE ((l.drop i).drop (rdN (l.drop i) m).j) != 0) = false := by rw [hr]; rfl
        generalize hq : rdE ((l.drop i).drop (rdN (l.drop i) m).j) = q at HN e0
        have HQ := Lib.hid hq
        clear hr hq
        go_wp2_with (go_at_call 70; refine HN.out.mono ?_; rintro e w1 ⟨rfl, v1, hu⟩; have HU1 := Lib.hid hu; clear hu)
        go_roundg (n - (m + 1))
        case measure => omega
        case rel => exact ⟨m + 1, by omega, stood_step HE.out HR.out HU1.out⟩
      · have HR := Lib.hid hr
        have e0 : (rdE ((l.drop i).drop (rdN (l.drop i) m).j) != 0) = true := by rw [bne_iff_ne]; exact hr
        have HH : Hid (∀ w' v, Unv w0 w' g (.slice a l.length cap) (nxA ((l.drop i).drop (rdN (l.drop i) m).j) (i + (rdN (l.drop i) m).j)) v (nxX ((l.drop i).drop (rdN (l.drop i) m).j) (rdN (l.drop i) m).xs) → UpP w0 g (.slice a l.length cap) l i n (.returned (.int .i64 (rdE ((l.drop i).drop (rdN (l.drop i) m).j)))) w') := Lib.hid fun w' v h => stood_halt HE.out HR.out hlt h
        generalize hq : rdE ((l.drop i).drop (rdN (l.drop i) m).j) = q at HN e0 HH
        clear hr hq
        go_wp2_with (go_at_call 70; refine HN.out.mono ?_; rintro e w1 ⟨rfl, v1, hu⟩; have HU1 := Lib.hid hu; clear hu)
        go_ret
        exact HH.out _ _ HU1.out
    · obtain rfl : m = n := by omega
      go_wp2_with fail
      go_ret
      exact ⟨by rw [HE.out]; rfl, _, HU.out⟩
end Go.Proofs.YtbhdlclaooohfaaGreatDoor

