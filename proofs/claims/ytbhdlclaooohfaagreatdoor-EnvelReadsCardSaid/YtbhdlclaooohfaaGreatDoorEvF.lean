import Derived.Test.YtbhdlclaooohfaaGreatDoorEvE
import Derived.Test.YtbhdlclaooohfaaGreatDoorFrF
/- Envel: framed, putMailbox, stateFrame, Step. -/
namespace Go.Proofs.YtbhdlclaooohfaaGreatDoor
open Go.Maps Go.Shelf Go.Proofs.YtbhdlclaooohfaaGreatDoor.Ad Go.ChangeShapes Go.WideShapes Go.ChangeAt Go.RowKit
set_option linter.unusedVariables false
set_option linter.unusedSimpArgs false

theorem txL_nums (t : ByteArray) : textL t = txL (nums t) := by unfold textL txL; rw [nums_length]
theorem txL_len (t : ByteArray) : (txL (nums t)).length = 4 + t.size := by rw [← txL_nums, textL_length]
theorem u64_nat {x : Int} (h0 : 0 ≤ x) (h1 : x < 18446744073709551616) : IntKind.u64.wrap x = x := by rw [IntKind.wrap_u64]; omega
/-- a sink, and a row beside it -/
structure SBR (B : Nat) (w0 w : World) (s : Nat) (v : Value) (l : List Int) (g : Nat) (cs : Array Value) (t : TypeId) : Prop where
  sb : SB B w0 w s v l
  row : w.heap[g]? = some (.cells cs t (0, 0))
  gB : B ≤ g
  ne : g ≠ s
  ty : t ≠ 5
section
variable {B : Nat} {w0 w w1 : World} {s : Nat} {v v1 : Value} {l l1 : List Int} {g : Nat} {cs : Array Value} {t : TypeId}
theorem SBR.puts (h : SBR B w0 w s v l g cs t) (hp : Puts w s v l1 v1 w1) : SBR B w0 w1 s v1 l1 g cs t := by
  refine ⟨h.sb.puts hp, hp.mod.row h.row ?_, h.gB, h.ne, h.ty⟩
  intro hg
  simp only [List.mem_cons, Option.mem_toList] at hg
  rcases hg with hg | hg
  · exact h.ne hg
  · exact (IsT.ne (owns_isT h.sb.snk.own hg) (fun e => h.ty e.symm)) ⟨cs, h.row⟩
theorem SBR.u (h : SBR B w0 w s v l g cs t) (x k : Int) (h0 : 0 ≤ x) (h1 : x < 18446744073709551616) (hx : holdsB x k = true) (hl : l.length ≤ 100000000) :
    Calls Tryz.prog 49 #[.pointer (some ⟨s, 0, none⟩), .int .u64 x, .int .i64 k] w fun e w' => e = .returned (.bool true) ∧ ∃ v', SBR B w0 w' s v' (l ++ be x k.toNat) g cs t := by
  refine (sinkU_any w s v l h.sb.snk x k h0 h1 (by omega)).mono ?_
  rintro e w' ⟨rfl, v', hp⟩
  have e1 : putL x k = be x k.toNat := if_pos hx
  rw [e1] at hp
  exact ⟨by rw [hx], v', h.puts hp⟩
theorem SBR.text (h : SBR B w0 w s v l g cs t) (x : ByteArray) (hx : x.size ≤ 1000000) (hl : l.length ≤ 100000000) :
    Calls Tryz.prog 69 #[.pointer (some ⟨s, 0, none⟩), .string x] w fun e w' => e = .returned (.tuple #[]) ∧ ∃ v', SBR B w0 w' s v' (l ++ txL (nums x)) g cs t := by
  refine (sinkText_any w s v l h.sb.snk x hx (by omega)).mono ?_
  rintro e w' ⟨rfl, v', hp⟩
  rw [txL_nums] at hp
  exact ⟨rfl, v', h.puts hp⟩
end
theorem framed_any (kind : Int) (p : List Int) (a : Option Addr) (n cap : Nat) (w : World) (hk : 0 ≤ kind ∧ kind ≤ 255) (hc : Cells8 w a p) (hn : n = p.length) (hl : p.length ≤ 65536) (ht : Halves w) :
    Calls Tryz.prog 27 #[.int .i64 kind, .slice a n cap] w (NewB (wrapL kind p) w) := by
  have hw := wrap_any kind p a n cap w hc hn (by omega) ht
  have h0 : wrapE kind p.length = 0 := wrapE_ok.2 ⟨hk, hl⟩
  rw [wrapR_ok h0, h0] at hw
  unfold NewFrame at hw
  have HW := Lib.hid hw
  clear hw h0 hc hn
  unfold NewB
  generalize wrapL kind p = r at *
  go_enter Tryz.func27, Tryz.ntmps27
  go_wp2_with (go_at_call 47; refine HW.out.mono ?_; rintro e w1 ⟨a1, c1, rfl, ho⟩; have HO := Lib.hid ho; clear ho)
  go_ret
  exact ⟨a1, c1, rfl, HO.out.own, HO.out.below⟩
/-- what a sink is told of a mailbox -/
def mbL (l d : ByteArray) : List Int := txL (nums l) ++ txL (nums d)
theorem mbL_len (l d : ByteArray) : (mbL l d).length = 8 + l.size + d.size := by unfold mbL; rw [List.length_append, txL_len, txL_len]; omega
set_option maxHeartbeats 1000000 in
theorem putMailbox_any (w : World) (s : Nat) (v : Value) (b : List Int) (h : Snk w s v b) (l d : ByteArray) (hl : l.size ≤ 100000) (hd : d.size ≤ 100000) (hb : b.length ≤ 10000000) :
    Calls Tryz.prog 50 #[.pointer (some ⟨s, 0, none⟩), .agg (adCs l d)] w fun e w' => e = .returned (.tuple #[]) ∧ ∃ v', Puts w s v (b ++ mbL l d) v' w' := by
  have hrow := heap_alloc_new w (.cells (adCs l d) 25)
  have hm0 : Mod [] w (w.alloc (.cells (adCs l d) 25)) := (Mod.refl [] w).alloc _
  have hlt := h.lt
  have HP0 := Lib.hid (Puts.ofMod h hm0)
  have hne : ∀ k, v.ownBlock = some k → k ≠ w.heap.size := fun k hk he => by
    have := (h.own.lt k hk).2
    omega
  have k0 := blk_cell hrow 0
  have k1 := blk_cell hrow 1
  have HRow := Lib.hid hrow
  have HNe := Lib.hid hne
  have HLt := Lib.hid hlt
  clear hrow hm0 hne hlt h
  go_enter Tryz.func50, Tryz.ntmps50
  go_wp2_with fail
  refine (sinkText_any _ s v b HP0.out.snk l (by omega) (by omega)).mono ?_
  rintro e w1 ⟨rfl, v1, hp⟩
  have HP1 := Lib.hid (HP0.out.trans hp)
  have hrow1 := hp.mod.row HRow.out (by
    intro hg
    simp only [List.mem_cons, Option.mem_toList] at hg
    rcases hg with hg | hg
    · have := HLt.out; omega
    · exact HNe.out _ hg rfl)
  have j1 := blk_cell hrow1 1
  clear hp hrow1
  go_wp2_with fail
  refine (sinkText_any _ s v1 _ HP1.out.snk d (by omega) (by rw [List.length_append, textL_length]; omega)).mono ?_
  rintro e w2 ⟨rfl, v2, hp⟩
  have HP2 := Lib.hid (HP1.out.trans hp)
  clear hp
  go_wp2_with fail
  go_end0
  refine ⟨rfl, v2, ?_⟩
  have := HP2.out
  rw [List.append_assoc, txL_nums, txL_nums] at this
  exact this
theorem spL_len (i : Int) (s : JSt) : (spL i s).length = 14 := by simp [spL, be_length]
theorem spL_bytes (i : Int) (s : JSt) : Bytes (spL i s) := (be_bytes _ _).append ((be_bytes _ _).append ((be_bytes _ _).append ((be_bytes _ _).append (be_bytes _ _))))
set_option maxHeartbeats 2000000 in
theorem stateFrame_any (i : Int) (s : JSt) (w : World) (hi : 0 ≤ i ∧ i < 256) (hs : StFit s) (ht : Halves w) :
    Calls Tryz.prog 29 #[.int .i64 i, .agg (stC s)] w (NewB (wrapL 18 (spL i s)) w) := by
  obtain ⟨⟨b1, b2⟩, ⟨b3, b4⟩, ⟨b5, b6⟩, b7, b8⟩ := hs
  have hrow := heap_alloc_new w (.cells (stC s) 41)
  have hsz : (w.alloc (.cells (stC s) 41)).heap.size = w.heap.size + 1 := by simp
  have HT := Lib.hid ht
  have h0 : Hid (SBR w.heap.size w ((w.alloc (.cells (stC s) 41)).alloc (.cells #[.slice none 0 0] 113)) (w.heap.size + 1) (.slice none 0 0) [] w.heap.size (stC s) 41) := Lib.hid (by
    have hn := Snk.new (w.alloc (.cells (stC s) 41))
    rw [hsz] at hn
    exact ⟨⟨hn, by omega, by simp [Value.ownBlock], (((Mod.refl [] w).alloc _).alloc _).toBelow (Nat.le_refl _) (by simp), by simp; omega⟩, ((Mod.refl [] _).alloc _).row hrow (by simp), Nat.le_refl _, by omega, by decide⟩)
  have u0 := u64_nat hi.1 (show i < 18446744073709551616 by omega)
  have u1 := u64_nat b1 (show s.st < 18446744073709551616 by omega)
  have u2 := u64_nat b3 (show s.tries < 18446744073709551616 by omega)
  have u3 := u64_nat b5 b6
  have u4 := u64_nat b7 (show s.code < 18446744073709551616 by omega)
  clear hrow ht
  unfold NewB
  have HSz := Lib.hid hsz
  clear hsz
  go_enter Tryz.func29, Tryz.ntmps29
  go_wp2_with fail
  refine (newSink_any _).mono ?_
  rintro e w1 ⟨rfl, hw1⟩
  rw [HSz.out]
  have h1 := h0.out
  rw [← hw1] at h1
  have HS1 := Lib.hid h1
  clear hw1 h1 h0
  go_wp2_with fail
  refine (HS1.out.u i 1 hi.1 (by omega) (holds_iff.2 ⟨by omega, by show i < 256 ^ 1; omega⟩) (by simp)).mono ?_
  rintro e w2 ⟨rfl, v2, h2⟩
  have HS2 := Lib.hid h2
  have c2 := blk_cell h2.row 0
  clear h2
  go_wp2_with fail
  refine (HS2.out.u s.st 1 b1 (by omega) (holds_iff.2 ⟨by omega, by show s.st < 256 ^ 1; omega⟩) (by simp [be_length])).mono ?_
  rintro e w3 ⟨rfl, v3, h3⟩
  have HS3 := Lib.hid h3
  have c3 := blk_cell h3.row 1
  clear h3
  go_wp2_with fail
  refine (HS3.out.u s.tries 2 b3 (by omega) (holds_iff.2 ⟨by omega, by show s.tries < 256 ^ 2; omega⟩) (by simp [be_length])).mono ?_
  rintro e w4 ⟨rfl, v4, h4⟩
  have HS4 := Lib.hid h4
  have c4 := blk_cell h4.row 2
  clear h4
  go_wp2_with fail
  refine (HS4.out.u s.due 8 b5 b6 (holds_iff.2 ⟨by omega, by show s.due < 256 ^ 8; omega⟩) (by simp [be_length])).mono ?_
  rintro e w5 ⟨rfl, v5, h5⟩
  have HS5 := Lib.hid h5
  have c5 := blk_cell h5.row 3
  clear h5
  go_wp2_with fail
  refine (HS5.out.u s.code 2 b7 (by omega) (holds_iff.2 ⟨by omega, by show s.code < 256 ^ 2; omega⟩) (by simp [be_length])).mono ?_
  rintro e w6 ⟨rfl, v6, h6⟩
  have e6 : ((((([] ++ be i (1 : Int).toNat) ++ be s.st (1 : Int).toNat) ++ be s.tries (2 : Int).toNat) ++ be s.due (8 : Int).toNat) ++ be s.code (2 : Int).toNat) = spL i s := by simp [spL]
  rw [e6] at h6
  have HS6 := Lib.hid h6
  clear h6 e6
  go_wp2_with fail
  refine (sinkBytes_any _ _ _ _ HS6.out.sb.snk (by rw [spL_len]; omega)).mono ?_
  rintro e w7 ⟨a7, c7, rfl, ho7, hb7⟩
  have HB7 := Lib.hid (HS6.out.sb.below.trans (hb7.mono HS6.out.sb.size))
  have HF := Lib.hid (framed_any 18 (spL i s) a7 _ c7 w7 ⟨by omega, by omega⟩ (Cells8.ofOwns (spL_bytes i s) ho7) rfl (by rw [spL_len]; omega) (HT.out.old HB7.out))
  have HB6 := Lib.hid HS6.out.sb.size
  have HBs := Lib.hid (Nat.le_trans HS6.out.sb.size hb7.size)
  unfold NewB at HF
  clear ho7 hb7
  generalize hr : wrapL 18 (spL i s) = r at HF
  have HRr := Lib.hid hr
  clear hr
  go_wp2_with fail
  refine HF.out.mono ?_
  rintro e w8 ⟨a8, c8, rfl, ho8, hb8⟩
  have HO8 := Lib.hid ho8
  have HB8 := Lib.hid hb8
  clear ho8 hb8
  go_wp2_with fail
  go_ret
  rw [HRr.out]
  exact ⟨a8, c8, rfl, owns_rebase HO8.out (fun k hk => Nat.le_trans HBs.out (HO8.out.lt k hk).1), HB7.out.trans (HB8.out.mono HBs.out)⟩

/-- what Step answers -/
def stepE (i : Int) (s : JSt) : Int := if btB i 0 19 = false then 1 else if stB s = false then 3 else 0
def stepR (i : Int) (s : JSt) : List Int := if stepE i s = 0 then wrapL 18 (spL i s) else []
def NewBE (l : List Int) (er : Int) (w : World) (e : Ending) (w' : World) : Prop :=
  ∃ a cap, e = .returned (.tuple #[.slice a l.length cap, .int .i64 er]) ∧ w'.ownsRow w.heap.size 5 1 (.slice a l.length cap) l.length (u8s l) ∧ Below w.heap.size w w'
theorem NewBE.nil {l : List Int} {er : Int} {w w' : World} (hl : l = []) (hm : Mod [] w w') : NewBE l er w (.returned (.tuple #[.slice none 0 0, .int .i64 er])) w' := by
  subst hl
  exact ⟨none, 0, rfl, World.ownsRow_nil _ _ _ _, hm.toBelow (Nat.le_refl _) (by simp)⟩
set_option maxHeartbeats 1000000 in
theorem step_any (i : Int) (s : JSt) (w : World) (ht : Halves w) :
    Calls Tryz.prog 11 #[.int .i64 i, .agg (stC s)] w (NewBE (stepR i s) (stepE i s) w) := by
  have hrow := heap_alloc_new w (.cells (stC s) 41)
  have k0 := blk_cell hrow 0
  have k1 := blk_cell hrow 1
  have k2 := blk_cell hrow 2
  have k3 := blk_cell hrow 3
  have HRow := Lib.hid hrow
  clear hrow
  have HM := Lib.hid ((Mod.refl [] w).alloc (.cells (stC s) 41))
  have HG := Lib.hid (goodState_any s)
  unfold StP at HG
  have HT := Lib.hid ht
  clear ht
  cases h0 : btB i 0 19
  · have e0 : stepE i s = 1 := by unfold stepE; rw [h0]; rfl
    have e1 : stepR i s = [] := by unfold stepR; rw [e0]; rfl
    rw [e0, e1]
    have HB := Lib.hid (between_is h0)
    clear h0 e0 e1
    go_enter Tryz.func11, Tryz.ntmps11
    go_wp2_with (go_at_call 30; (refine (HB.out _).mono ?_); rintro e w' ⟨rfl, rfl⟩)
    go_ret2
    exact NewBE.nil rfl HM.out
  have hi := btB_iff.1 h0
  have HB := Lib.hid (between_is h0)
  cases h1 : stB s
  · have e0 : stepE i s = 3 := by unfold stepE; rw [h0, h1]; rfl
    have e1 : stepR i s = [] := by unfold stepR; rw [e0]; rfl
    rw [e0, e1]
    rw [h1] at HG
    clear h0 h1 e0 e1
    go_enter Tryz.func11, Tryz.ntmps11
    go_wp2_with (first | (go_at_call 30; (refine (HB.out _).mono ?_); rintro e w' ⟨rfl, rfl⟩) | (go_at_call 31; (refine (HG.out _).mono ?_); rintro e w' ⟨rfl, hm⟩; have HM1 := Lib.hid (HM.out.trans hm); clear hm))
    go_ret2
    exact NewBE.nil rfl HM1.out
  · have e0 : stepE i s = 0 := by unfold stepE; rw [h0, h1]; rfl
    have e1 : stepR i s = wrapL 18 (spL i s) := by unfold stepR; rw [e0]; rfl
    rw [e0, e1]
    have HF := Lib.hid (fun W (hm : Mod [] w W) => stateFrame_any i s W ⟨by omega, by omega⟩ (st_fit h1) (HT.out.old (hm.toBelow (Nat.le_refl _) (by simp))))
    unfold NewB at HF
    rw [h1] at HG
    clear h0 h1 e0 e1
    unfold NewBE
    generalize wrapL 18 (spL i s) = r at *
    go_enter Tryz.func11, Tryz.ntmps11
    go_wp2_with (first | (go_at_call 30; (refine (HB.out _).mono ?_); rintro e w' ⟨rfl, rfl⟩) | (go_at_call 31; (refine (HG.out _).mono ?_); rintro e w1 ⟨rfl, hm⟩; have HM1 := Lib.hid (HM.out.trans hm); have hr := hm.row HRow.out (by simp); have j0 := blk_cell hr 0; have j1 := blk_cell hr 1; have j2 := blk_cell hr 2; have j3 := blk_cell hr 3; clear hm hr) | (go_at_call 29; (refine (HF.out _ HM1.out).mono ?_); rintro e w2 ⟨a2, c2, rfl, ho, hb⟩; have HO := Lib.hid (owns_rebase ho (B := w.heap.size) (fun k hk => Nat.le_trans HM1.out.size (ho.lt k hk).1)); have HB2 := Lib.hid (HM1.out.trans (Mod.ofBelow hb)); clear ho hb))
    go_ret2
    exact ⟨a2, c2, rfl, HO.out, HB2.out.toBelow (Nat.le_refl _) (by simp)⟩
end Go.Proofs.YtbhdlclaooohfaaGreatDoor

