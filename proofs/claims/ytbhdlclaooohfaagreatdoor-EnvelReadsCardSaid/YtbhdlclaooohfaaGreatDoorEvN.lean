import Derived.Test.YtbhdlclaooohfaaGreatDoorEvM
/- Envel: the reader's told, walked. Written by tools/mkevtold.py. -/
namespace Go.Proofs.YtbhdlclaooohfaaGreatDoor
open Go.Maps Go.Shelf Go.Proofs.YtbhdlclaooohfaaGreatDoor.Ad Go.ChangeShapes Go.WideShapes Go.ChangeAt Go.RowKit
set_option linter.unusedVariables false
set_option linter.unusedSimpArgs false

/-- the reader and the source that it takes from -/
structure TW (B : Nat) (w0 w : World) (rb : Nat) (f : FA) (used : Int) (j : Jb) (p : JA) (s g : Nat) (c : Cr) : Prop where
  rd : RdW B w0 w rb f used j p
  src : SrC w s g c
  sB : B ≤ s
  gl : g < w.heap.size
  gr : g ≠ rb
  gT : ∀ k, (Value.slice p.ta j.to.length p.tc).ownBlock = some k → k ≠ g
  gS : ∀ k, (Value.slice p.sa j.sts.length p.sc).ownBlock = some k → k ≠ g
section
variable {B : Nat} {w0 w w' : World} {rb : Nat} {f : FA} {used : Int} {j : Jb} {p : JA} {s g : Nat} {c c' : Cr}
theorem TW.srow (h : TW B w0 w rb f used j p s g c) : ∃ cs, w.heap[s]? = some (.cells cs 99 (0, 0)) := by
  obtain ⟨a, cap, hc, _⟩ := h.src.ex
  exact ⟨_, hc⟩
theorem TW.take (h : TW B w0 w rb f used j p s g c) (hs : SrC w' s g c') (hm : Mod [s] w w') : TW B w0 w' rb f used j p s g c' :=
  ⟨h.rd.src h.src h.sB hm, hs, h.sB, Nat.lt_of_lt_of_le h.gl hm.size, h.gr, h.gT, h.gS⟩
theorem TW.quiet (h : TW B w0 w rb f used j p s g c) (hm : Mod [] w w') : TW B w0 w' rb f used j p s g c :=
  ⟨h.rd.quiet hm, h.src.mod hm (by simp) (by simp), h.sB, Nat.lt_of_lt_of_le h.gl hm.size, h.gr, h.gT, h.gS⟩
theorem TW.put (h : TW B w0 w rb f used j p s g c) (i : Nat) (v : Value) (j' : Jb) (h1 : j'.to = j.to) (h2 : j'.sts = j.sts) (h3 : j'.body = j.body) (hr : (rdrC f used j p).setIfInBounds i v = rdrC f used j' p) : TW B w0 (w.setCell ⟨rb, i, none⟩ v) rb f used j' p s g c := by
  have hm : Mod [rb] w (w.setCell ⟨rb, i, none⟩ v) := (Mod.refl [rb] w).setCell (Or.inl (by simp)) _
  obtain ⟨cs, hc⟩ := h.srow
  have hsr : s ≠ rb := fun e => by
    subst e
    exact h.rd.notT (show 48 ≠ 99 by decide) ⟨_, hc⟩
  exact ⟨h.rd.put i v used j' h1 h2 h3 hr, h.src.mod hm (by simpa using hsr) (by simpa using h.gr), h.sB, Nat.lt_of_lt_of_le h.gl hm.size, h.gr, by rw [h1]; exact h.gT, by rw [h2]; exact h.gS⟩
theorem TW.grewTo (h : TW B w0 w rb f used j p s g c) (t : Tg) {a' : Option Addr} {c1 : Nat} (k1 : w'.ownsRow B 39 3 (.slice a' (j.to.length + 1) c1) (j.to.length + 1) (rowC tgC j.to ++ (tgC t).toList)) (k2 : Mod (Value.slice p.ta j.to.length p.tc).ownBlock.toList w w') (k3 : (Value.slice a' (j.to.length + 1) c1).ownBlock = (Value.slice p.ta j.to.length p.tc).ownBlock ∨ (Value.slice a' (j.to.length + 1) c1).ownBlock = some w.heap.size) :
    TW B w0 (w'.setCell ⟨rb, 6, none⟩ (.slice a' (j.to.length + 1) c1)) rb f used { j with to := j.to ++ [t] } { p with ta := a', tc := c1 } s g c := by
  have hm : Mod [rb] w' (w'.setCell ⟨rb, 6, none⟩ (.slice a' (j.to.length + 1) c1)) := (Mod.refl [rb] w').setCell (Or.inl (by simp)) _
  obtain ⟨cs, hc⟩ := h.srow
  have hsr : s ≠ rb := fun e => by
    subst e
    exact h.rd.notT (show 48 ≠ 99 by decide) ⟨_, hc⟩
  have hs2 : SrC w' s g c := h.src.mod k2 (by
    intro hx
    exact ne_type hc (show 99 ≠ 39 by decide) (owns_isT h.rd.to (by simpa using hx))) (by
    intro hx
    exact h.gT g (by simpa using hx) rfl)
  refine ⟨h.rd.grewTo t k1 k2, hs2.mod hm (by simpa using hsr) (by simpa using h.gr), h.sB, Nat.lt_of_lt_of_le h.gl (Nat.le_trans k2.size hm.size), h.gr, ?_, h.gS⟩
  intro k hk
  have hl : (j.to ++ [t]).length = j.to.length + 1 := by simp
  simp only [hl] at hk
  rcases k3 with h3 | h3
  · rw [h3] at hk; exact h.gT k hk
  · rw [h3] at hk
    have := h.gl
    simp at hk; omega
theorem TW.grewSt (h : TW B w0 w rb f used j p s g c) (t : JSt) {a' : Option Addr} {c1 : Nat} (k1 : w'.ownsRow B 41 4 (.slice a' (j.sts.length + 1) c1) (j.sts.length + 1) (rowC stC j.sts ++ (stC t).toList)) (k2 : Mod (Value.slice p.sa j.sts.length p.sc).ownBlock.toList w w') (k3 : (Value.slice a' (j.sts.length + 1) c1).ownBlock = (Value.slice p.sa j.sts.length p.sc).ownBlock ∨ (Value.slice a' (j.sts.length + 1) c1).ownBlock = some w.heap.size) :
    TW B w0 (w'.setCell ⟨rb, 7, none⟩ (.slice a' (j.sts.length + 1) c1)) rb f used { j with sts := j.sts ++ [t] } { p with sa := a', sc := c1 } s g c := by
  have hm : Mod [rb] w' (w'.setCell ⟨rb, 7, none⟩ (.slice a' (j.sts.length + 1) c1)) := (Mod.refl [rb] w').setCell (Or.inl (by simp)) _
  obtain ⟨cs, hc⟩ := h.srow
  have hsr : s ≠ rb := fun e => by
    subst e
    exact h.rd.notT (show 48 ≠ 99 by decide) ⟨_, hc⟩
  have hs2 : SrC w' s g c := h.src.mod k2 (by
    intro hx
    exact ne_type hc (show 99 ≠ 41 by decide) (owns_isT h.rd.sts (by simpa using hx))) (by
    intro hx
    exact h.gS g (by simpa using hx) rfl)
  refine ⟨h.rd.grewSt t k1 k2, hs2.mod hm (by simpa using hsr) (by simpa using h.gr), h.sB, Nat.lt_of_lt_of_le h.gl (Nat.le_trans k2.size hm.size), h.gr, h.gT, ?_⟩
  intro k hk
  have hl : (j.sts ++ [t]).length = j.sts.length + 1 := by simp
  simp only [hl] at hk
  rcases k3 with h3 | h3
  · rw [h3] at hk; exact h.gS k hk
  · rw [h3] at hk
    have := h.gl
    simp at hk; omega
end
/-- what told answers -/
def ToldRP (B : Nat) (w0 : World) (rb : Nat) (f : FA) (used : Int) (b : Bool) (j : Jb) (e : Ending) (w' : World) : Prop := e = .returned (.bool b) ∧ ∃ p, RdW B w0 w' rb f used j p
abbrev jz : Jb := ⟨0, 0, ⟨#[]⟩, ⟨#[]⟩, [], [], []⟩
abbrev pz : JA := ⟨none, 0, none, 0, none, 0⟩
set_option maxRecDepth 100000 in
set_option maxHeartbeats 8000000 in
theorem told_any {B : Nat} {w0 w : World} {rb : Nat} {f : FA} {used : Int} (h : RdW B w0 w rb f used jz pz) (pa : Option Addr) (pn pc : Nat) (pl : List Int) (hp : Pay B w pa pl) (hn : pn = pl.length) (hl : pl.length ≤ 100000) (hpos : 0 < B) :
    Calls Tryz.prog 14 #[.pointer (some ⟨rb, 0, none⟩), .slice pa pn pc] w (ToldRP B w0 rb f used (toldOk ⟨pl, 0⟩) (toldJ ⟨pl, 0⟩)) := by
  have hb := hp.1.1
  have HS := Lib.hid (newSource2_any w pa pc pn pl hp.1 hn (by omega) (by have := h.size; omega))
  obtain ⟨c0, hc0⟩ : ∃ c0 : Cr, c0 = ⟨pl, 0⟩ := ⟨_, rfl⟩
  have HC0 := Lib.hid hc0
  have hb0 : Bytes c0.l := by rw [hc0]; exact hb
  have hl0 : c0.l.length ≤ 100000 := by rw [hc0]; exact hl
  have H := Lib.hid h
  rw [← hc0]
  have HL0 := Lib.hid hl0
  have HL1 := Lib.hid (show (tc1 c0).l.length ≤ 100000 from Nat.le_trans (cUs_len _ _) hl0)
  have HL2 := Lib.hid (show (tc2 c0).l.length ≤ 100000 from Nat.le_trans (cUs_len _ _) HL1.out)
  have HL3 := Lib.hid (show (tc3 c0).l.length ≤ 100000 from Nat.le_trans (mbN_len _) HL2.out)
  have HL4 := Lib.hid (show (tc4 c0).l.length ≤ 100000 from Nat.le_trans (cUs_len _ _) HL3.out)
  have HB0 := Lib.hid hb0
  obtain ⟨y1, hy1⟩ : ∃ x, wr64 (cU c0 8) = x := ⟨_, rfl⟩
  obtain ⟨y2, hy2⟩ : ∃ x, wr64 (cU (tc1 c0) 8) = x := ⟨_, rfl⟩
  have HTJ : Hid (toldJ c0 = ⟨y1, y2, mbF (tc2 c0), mbD (tc2 c0), tcsX (tcC c0) (tc4 c0), List.replicate (tcC c0) (freshS y2), []⟩) := Lib.hid (by unfold toldJ; rw [hy1, hy2])
  have HPos := Lib.hid hpos
  clear h hp hn hl hc0 hb hb0 hl0 hpos
  unfold ToldRP
  go_enter Tryz.func14, Tryz.ntmps14
  go_wp2_with fail
  refine HS.out.mono ?_
  rintro e w1 ⟨s, g, rfl, hs, hsB, hg, hgl, hmm⟩
  have hT1 : TW B w0 w1 rb f used jz pz s g c0 := by
    have hr1 := H.out.quiet hmm
    have hlt := blk_lt H.out.row
    have hsz := H.out.size
    have hrB := H.out.rB
    have hp0 := HPos.out
    exact ⟨hr1, (by rw [HC0.out]; exact hs), (by omega), hgl, (by rcases hg with h | h <;> omega), (by intro k hk; cases hk), (by intro k hk; cases hk)⟩
  have HT1 := Lib.hid hT1
  clear hs hsB hg hgl hmm hT1 HS
  go_wp2_with fail
  refine (SrC.u HT1.out.src 8 (by have := HL0.out; omega)).mono ?_
  rintro e wa ⟨rfl, hs, hmm⟩
  have ha := HT1.out.take (c' := tc1 c0) hs hmm
  have fa := blk_free ha.rd.row 2
  have za := blk_cell ha.rd.row 2
  have HTa := Lib.hid (ha.put 2 (.int .i64 y1) ⟨y1, 0, ⟨#[]⟩, ⟨#[]⟩, [], [], []⟩ rfl rfl rfl rfl)
  clear hs hmm ha
  go_wp2_with fail
  refine (SrC.u HTa.out.src 8 (by have := HL1.out; omega)).mono ?_
  rintro e wb ⟨rfl, hs, hmm⟩
  have ha := HTa.out.take (c' := tc2 c0) hs hmm
  have fb := blk_free ha.rd.row 3
  have zb := blk_cell ha.rd.row 3
  have HTb := Lib.hid (ha.put 3 (.int .i64 y2) ⟨y1, y2, ⟨#[]⟩, ⟨#[]⟩, [], [], []⟩ rfl rfl rfl rfl)
  clear hs hmm ha fa za
  go_wp2_with fail
  refine (takeMailbox_any _ s g _ HTb.out.src HTb.out.gl (by have := HL2.out; omega)).mono ?_
  rintro e wc ⟨rfl, hs, hmm⟩
  have ha := HTb.out.take (c' := tc3 c0) hs hmm
  have f4 := blk_free ha.rd.row 4
  have f5 := blk_free ha.rd.row 5
  have z4 := blk_cell ha.rd.row 4
  have z5 := blk_cell ha.rd.row 5
  obtain ⟨tl, htl⟩ : ∃ x, strOfNums (cT (tc2 c0)) = x := ⟨_, rfl⟩
  obtain ⟨td, htd⟩ : ∃ x, strOfNums (cT (cTs (tc2 c0))) = x := ⟨_, rfl⟩
  have HTl : Hid (mbF (tc2 c0) = tl) := Lib.hid htl
  have HTd : Hid (mbD (tc2 c0) = td) := Lib.hid htd
  have HTc := Lib.hid ((ha.put 4 (.string tl) ⟨y1, y2, tl, ⟨#[]⟩, [], [], []⟩ rfl rfl rfl rfl).put 5 (.string td) ⟨y1, y2, tl, td, [], [], []⟩ rfl rfl rfl rfl)
  rw [htl, htd]
  clear hs hmm ha fb zb htl htd
  go_wp2_with fail
  refine (SrC.u HTc.out.src 1 (by have := HL3.out; omega)).mono ?_
  obtain ⟨n, hn⟩ : ∃ n : Nat, cU (tc3 c0) 1 = (n : Int) := Int.eq_ofNat_of_zero_le (cU_byte HTc.out.src.bytes).1
  have hn256 : n < 256 := by have := (cU_byte HTc.out.src.bytes).2; omega
  have HNc : Hid (tcC c0 = n) := Lib.hid (by unfold tcC; rw [hn]; simp)
  rw [hn]
  rintro e wd ⟨rfl, hs, hmm⟩
  have HTd' := Lib.hid (HTc.out.take (c' := tc4 c0) hs hmm)
  clear hs hmm f4 f5 z4 z5 hn hy1 hy2
  generalize hc4 : tc4 c0 = c4 at HTd' HL4
  have HC4 := Lib.hid hc4
  clear hc4
  go_wp2_with fail
  go_loopw [31] (fun v wr => ∃ (k : Nat) (p : JA), v = .int .u64 k ∧ k ≤ n ∧ TW B w0 wr rb f used ⟨y1, y2, tl, td, tcsX k c4, List.replicate k (freshS y2), []⟩ p s g (tcsN k c4)) (fun v _ => n - (intOf v).toNat)
  case atStart => exact ⟨0, pz, rfl, Nat.zero_le _, HTd'.out⟩
  case round =>
    obtain ⟨k, p, rfl, hk, ht⟩ := hrel
    have HT := Lib.hid ht
    have HK255 : Hid (k ≤ 255) := Lib.hid (by omega)
    have HLc := Lib.hid (show (tcsN k c4).l.length ≤ 100000 from Nat.le_trans (tcsN_len _ _) HL4.out)
    clear ht
    by_cases hlt : k < n
    · have HKn := Lib.hid hlt
      have hk1 := u64_nat (show (0 : Int) ≤ (k : Int) + 1 by omega) (show (k : Int) + 1 < 18446744073709551616 by omega)
      obtain ⟨hsn1, hsn2⟩ := tcs_snoc k c4
      have hlen := tcsX_length k c4
      have HSn1 := Lib.hid hsn1
      have HSn2 := Lib.hid hsn2
      have HLen := Lib.hid hlen
      obtain ⟨jk, hjk⟩ : ∃ jk : Jb, (⟨y1, y2, tl, td, tcsX k c4, List.replicate k (freshS y2), []⟩ : Jb) = jk := ⟨_, rfl⟩
      have hjt : jk.to.length = k := by rw [← hjk]; exact hlen
      have hjs : jk.sts.length = k := by rw [← hjk]; simp
      have hja : jk.arr = y2 := by rw [← hjk]
      have HJk := Lib.hid hjk
      rw [hjk] at HT
      obtain ⟨cc, hcc⟩ : ∃ cc, tcsN k c4 = cc := ⟨_, rfl⟩
      have HCc := Lib.hid hcc
      rw [hcc] at HT HLc HSn1 HSn2
      have HK6 : Hid (∀ W, RdW B w0 W rb f used jk p → W.cell? ⟨rb, 6, none⟩ = some (.slice p.ta k p.tc)) := Lib.hid (fun W h => by rw [blk_cell h.row 6]; simp [rdrC, hjt])
      have HK6r : Hid (∀ W : World, W.heap[rb]? = some (.cells (rdrC f used jk p) 48 (0, 0)) → W.cell? ⟨rb, 6, none⟩ = some (.slice p.ta k p.tc)) := Lib.hid (fun W h => by rw [blk_cell h 6]; simp [rdrC, hjt])
      have HOwn : Hid (∀ {W}, RdW B w0 W rb f used jk p → W.ownsRow B 39 3 (.slice p.ta k p.tc) k (rowC tgC jk.to)) := Lib.hid (fun h => by have := h.to; rw [hjt] at this; exact this)
      have HGr : Hid (∀ {W W' : World} {c : Cr}, TW B w0 W rb f used jk p s g c → ∀ (t : Tg) {a' : Option Addr} {c1 : Nat}, W'.ownsRow B 39 3 (.slice a' (k + 1) c1) (k + 1) (rowC tgC jk.to ++ (tgC t).toList) → Mod (Value.slice p.ta k p.tc).ownBlock.toList W W' → ((Value.slice a' (k + 1) c1).ownBlock = (Value.slice p.ta k p.tc).ownBlock ∨ (Value.slice a' (k + 1) c1).ownBlock = some W.heap.size) → TW B w0 (W'.setCell ⟨rb, 6, none⟩ (.slice a' (k + 1) c1)) rb f used { jk with to := jk.to ++ [t] } { p with ta := a', tc := c1 } s g c) := Lib.hid (fun h t _ _ k1 k2 k3 => by rw [← hjt] at k1 k2 k3 ⊢; exact h.grewTo t k1 k2 k3)
      have HRk : Hid (∀ {W W' : World} {c : Cr}, TW B w0 W rb f used jk p s g c → Mod (Value.slice p.ta k p.tc).ownBlock.toList W W' → W'.heap[rb]? = some (.cells (rdrC f used jk p) 48 (0, 0))) := Lib.hid (fun h k2 => by
        rw [← hjt] at k2
        refine k2.row h.rd.row (fun hx => ?_)
        exact h.rd.notT (show 48 ≠ 39 by decide) (owns_isT h.rd.to (by simpa using hx)))
      have HK7 : Hid (∀ (t : Tg) (a : Option Addr) (c : Nat) W, RdW B w0 W rb f used { jk with to := jk.to ++ [t] } { p with ta := a, tc := c } → W.cell? ⟨rb, 7, none⟩ = some (.slice p.sa k p.sc) ∧ W.cell? ⟨rb, 3, none⟩ = some (.int .i64 y2)) := Lib.hid (fun t a c W h => ⟨by rw [blk_cell h.row 7]; simp [rdrC, hjs], by rw [blk_cell h.row 3]; simp [rdrC, hja]⟩)
      have HK7r : Hid (∀ (t : Tg) (a : Option Addr) (c : Nat) (W : World), W.heap[rb]? = some (.cells (rdrC f used { jk with to := jk.to ++ [t] } { p with ta := a, tc := c }) 48 (0, 0)) → W.cell? ⟨rb, 7, none⟩ = some (.slice p.sa k p.sc) ∧ W.cell? ⟨rb, 3, none⟩ = some (.int .i64 y2)) := Lib.hid (fun t a c W h => ⟨by rw [blk_cell h 7]; simp [rdrC, hjs], by rw [blk_cell h 3]; simp [rdrC, hja]⟩)
      have HOwn2 : Hid (∀ {t : Tg} {a : Option Addr} {c : Nat} {W}, RdW B w0 W rb f used { jk with to := jk.to ++ [t] } { p with ta := a, tc := c } → W.ownsRow B 41 4 (.slice p.sa k p.sc) k (rowC stC jk.sts)) := Lib.hid (fun h => by have := h.sts; simp only [hjs] at this; exact this)
      have HGr2 : Hid (∀ {t : Tg} {a : Option Addr} {c0 : Nat} {W W' : World} {c : Cr}, TW B w0 W rb f used { jk with to := jk.to ++ [t] } { p with ta := a, tc := c0 } s g c → ∀ (t' : JSt) {a' : Option Addr} {c1 : Nat}, W'.ownsRow B 41 4 (.slice a' (k + 1) c1) (k + 1) (rowC stC jk.sts ++ (stC t').toList) → Mod (Value.slice p.sa k p.sc).ownBlock.toList W W' → ((Value.slice a' (k + 1) c1).ownBlock = (Value.slice p.sa k p.sc).ownBlock ∨ (Value.slice a' (k + 1) c1).ownBlock = some W.heap.size) → TW B w0 (W'.setCell ⟨rb, 7, none⟩ (.slice a' (k + 1) c1)) rb f used { jk with to := jk.to ++ [t], sts := jk.sts ++ [t'] } ⟨a, c0, a', c1, p.ba, p.bc⟩ s g c) := Lib.hid (fun h t' _ _ k1 k2 k3 => by rw [← hjs] at k1 k2 k3 ⊢; exact h.grewSt t' k1 k2 k3)
      have HRk2 : Hid (∀ {t : Tg} {a : Option Addr} {c0 : Nat} {W W' : World} {c : Cr}, TW B w0 W rb f used { jk with to := jk.to ++ [t] } { p with ta := a, tc := c0 } s g c → Mod (Value.slice p.sa k p.sc).ownBlock.toList W W' → W'.heap[rb]? = some (.cells (rdrC f used { jk with to := jk.to ++ [t] } { p with ta := a, tc := c0 }) 48 (0, 0))) := Lib.hid (fun h k2 => by
        rw [← hjs] at k2
        refine k2.row h.rd.row (fun hx => ?_)
        exact h.rd.notT (show 48 ≠ 41 by decide) (owns_isT h.rd.sts (by simpa using hx)))
      have HEnd0 : Hid (∀ x, tcX cc = x → tcN cc = tcsN (k + 1) c4 ∧ ({ jk with to := jk.to ++ [x], sts := jk.sts ++ [freshS y2] } : Jb) = ⟨y1, y2, tl, td, tcsX (k + 1) c4, List.replicate (k + 1) (freshS y2), []⟩) := Lib.hid (fun x hx => ⟨HSn2.out.symm, by rw [← hjk, HSn1.out, hx, List.replicate_succ']⟩)
      clear hsn1 hsn2 hlen hjk hjt hjs hja hcc
      go_wp2_with fail
      refine (SrC.u HT.out.src 2 (by have := HLc.out; omega)).mono ?_
      obtain ⟨ux, hux⟩ : ∃ x, wr64 (cU cc 2) = x := ⟨_, rfl⟩
      have HUx := Lib.hid hux
      rintro e w2 ⟨rfl, hs, hmm⟩
      have HT2 := Lib.hid (HT.out.take (c' := cUs cc 2) hs hmm)
      have HLc2 := Lib.hid (show (cUs cc 2).l.length ≤ 100000 from Nat.le_trans (cUs_len _ _) HLc.out)
      clear hs hmm
      go_wp2_with fail
      clear hux
      refine region_J (S := (fun W => W.cell? ⟨rb, 6, none⟩ = some (.slice p.ta k p.tc))) (k := 15) (by kernel_rfl) (HK6.out _ (HT2.out.quiet ((Mod.refl [] w2).drew)).rd) (fun hHeld => ?_)
      refine anyJ.take3 (i := 0) (oi := ?_) (v := ?_) ?_ (by kernel_rfl) (by kernel_rfl) (by kernel_rfl) (by kernel_rfl) ?_ (Or.inl ⟨?_, ?_⟩) hHeld ?_
      rotate_left 2
      · simp only [List.getElem?_toArray, List.getElem?_cons_succ, List.getElem?_cons_zero]; rfl
      · exact fun _ _ _ h => h
      · rfl
      · intro w hSw; (try dsimp only at hSw); go_simp; try (with_reducible rfl)
      try simp only [Act.put, List.setIfInBounds_toArray, List.set_cons_zero, List.set_cons_succ]
      refine anyJ.take3 (i := 1) (oi := ?_) (v := ?_) ?_ (by kernel_rfl) (by kernel_rfl) (by kernel_rfl) (by kernel_rfl) ?_ (Or.inl ⟨?_, ?_⟩) hHeld ?_
      rotate_left 2
      · simp only [List.getElem?_toArray, List.getElem?_cons_succ, List.getElem?_cons_zero]; rfl
      · exact fun _ _ _ h => h
      · rfl
      · intro w hSw; (try dsimp only at hSw); go_simp; try (with_reducible rfl)
      try simp only [Act.put, List.setIfInBounds_toArray, List.set_cons_zero, List.set_cons_succ]
      refine anyJ.take3 (i := 2) (oi := ?_) (v := ?_) ?_ (by kernel_rfl) (by kernel_rfl) (by kernel_rfl) (by kernel_rfl) ?_ (Or.inl ⟨?_, ?_⟩) hHeld ?_
      rotate_left 2
      · simp only [List.getElem?_toArray, List.getElem?_cons_succ, List.getElem?_cons_zero]; rfl
      · exact fun _ _ _ h => h
      · rfl
      · intro w hSw; (try dsimp only at hSw); go_simp; try (with_reducible rfl)
      try simp only [Act.put, List.setIfInBounds_toArray, List.set_cons_zero, List.set_cons_succ]
      refine anyJ.take3 (i := 3) (oi := ?_) (v := ?_) ?_ (by kernel_rfl) (by kernel_rfl) (by kernel_rfl) (by kernel_rfl) ?_ (Or.inl ⟨?_, ?_⟩) hHeld ?_
      rotate_left 2
      · simp only [List.getElem?_toArray, List.getElem?_cons_succ, List.getElem?_cons_zero]; rfl
      · exact fun _ _ _ h => h
      · rfl
      · intro w hSw; (try dsimp only at hSw); go_simp; try (with_reducible rfl)
      try simp only [Act.put, List.setIfInBounds_toArray, List.set_cons_zero, List.set_cons_succ]
      refine anyJ.take3 (i := 4) (oi := ?_) (v := ?_) ?_ (by kernel_rfl) (by kernel_rfl) (by kernel_rfl) (by kernel_rfl) ?_ (Or.inl ⟨?_, ?_⟩) hHeld ?_
      rotate_left 2
      · simp only [List.getElem?_toArray, List.getElem?_cons_succ, List.getElem?_cons_zero]; rfl
      · exact fun _ _ _ h => h
      · rfl
      · intro w hSw; (try dsimp only at hSw); go_simp; try (with_reducible rfl)
      try simp only [Act.put, List.setIfInBounds_toArray, List.set_cons_zero, List.set_cons_succ]
      refine anyJ.take3 (i := 5) (oi := ?_) (v := ?_) ?_ (by kernel_rfl) (by kernel_rfl) (by kernel_rfl) (by kernel_rfl) ?_ (Or.inl ⟨?_, ?_⟩) hHeld ?_
      rotate_left 2
      · simp only [List.getElem?_toArray, List.getElem?_cons_succ, List.getElem?_cons_zero]; rfl
      · exact fun _ _ _ h => h
      · rfl
      · intro w hSw; (try dsimp only at hSw); go_simp; try (with_reducible rfl)
      try simp only [Act.put, List.setIfInBounds_toArray, List.set_cons_zero, List.set_cons_succ]
      refine anyJ.take3 (i := 6) (oi := ?_) (v := ?_) ?_ (by kernel_rfl) (by kernel_rfl) (by kernel_rfl) (by kernel_rfl) ?_ (Or.inl ⟨?_, ?_⟩) hHeld ?_
      rotate_left 2
      · simp only [List.getElem?_toArray, List.getElem?_cons_succ, List.getElem?_cons_zero]; rfl
      · exact fun _ _ _ h => h
      · rfl
      · intro w hSw; (try dsimp only at hSw); go_simp; try (with_reducible rfl)
      try simp only [Act.put, List.setIfInBounds_toArray, List.set_cons_zero, List.set_cons_succ]
      refine anyJ.take3 (i := 7) (oi := ?_) (v := ?_) ?_ (by kernel_rfl) (by kernel_rfl) (by kernel_rfl) (by kernel_rfl) ?_ (Or.inl ⟨?_, ?_⟩) hHeld ?_
      rotate_left 2
      · simp only [List.getElem?_toArray, List.getElem?_cons_succ, List.getElem?_cons_zero]; rfl
      · exact fun _ _ _ h => h
      · rfl
      · intro w hSw; (try dsimp only at hSw); go_simp; try (with_reducible rfl)
      try simp only [Act.put, List.setIfInBounds_toArray, List.set_cons_zero, List.set_cons_succ]
      refine anyJ.ready (rs := [8]) (by kernel_rfl) (by simp) ?_
      refine AllJ.cons (o := ?_) ?_ (fun K hK => ?_) ?_
      rotate_left
      · simp only [List.getElem?_toArray, List.getElem?_cons_succ, List.getElem?_cons_zero]; rfl
      · go_simp
        go_at_call 37
        refine (takeMailbox_any _ s g _ (HT2.out.quiet ((Mod.refl [] w2).drew)).src (by have := HT2.out.gl; exact this) (by have := HLc2.out; omega)).mono ?_
        rintro e w3 ⟨rfl, hs3, hm3⟩
        have HT3 := Lib.hid ((HT2.out.quiet ((Mod.refl [] w2).drew)).take (c' := tcN cc) hs3 hm3)
        clear hs3 hm3
        obtain ⟨sl, hsl⟩ : ∃ x, strOfNums (cT (cUs cc 2)) = x := ⟨_, rfl⟩
        obtain ⟨sd, hsd⟩ : ∃ x, strOfNums (cT (cTs (cUs cc 2))) = x := ⟨_, rfl⟩
        rw [hsl, hsd]
        have HX : Hid (tcX cc = ⟨ux, sl, sd⟩) := Lib.hid (by unfold tcX mbF mbD; rw [hsl, hsd, HUx.out])
        clear hsl hsd
        go_simp
        refine hK.out _ _ (HK6.out _ HT3.out.rd) ?_
        clear hK K hHeld
        intro hHeld
        try simp only [Act.put, List.setIfInBounds_toArray, List.set_cons_zero, List.set_cons_succ]
        refine anyJ.take3 (i := 9) (oi := ?_) (v := ?_) ?_ (by kernel_rfl) (by kernel_rfl) (by kernel_rfl) (by kernel_rfl) ?_ (Or.inl ⟨?_, ?_⟩) hHeld ?_
        rotate_left 2
        · simp only [List.getElem?_toArray, List.getElem?_cons_succ, List.getElem?_cons_zero]; rfl
        · exact fun _ _ _ h => h
        · rfl
        · intro w hSw; (try dsimp only at hSw); go_simp; try (with_reducible rfl)
        try simp only [Act.put, List.setIfInBounds_toArray, List.set_cons_zero, List.set_cons_succ]
        refine anyJ.ready (rs := [10]) (by kernel_rfl) (by simp) ?_
        refine AllJ.cons (o := ?_) ?_ (fun K hK => ?_) ?_
        rotate_left
        · simp only [List.getElem?_toArray, List.getElem?_cons_succ, List.getElem?_cons_zero]; rfl
        · go_simp
          have HT4 := Lib.hid (HT3.out.quiet ((Mod.refl [] w3).alloc (.cells (tgC ⟨ux, sl, sd⟩) 39)))
          refine hK.out _ _ (HK6.out _ HT4.out.rd) ?_
          clear hK K hHeld
          intro hHeld
          try simp only [Act.put, List.setIfInBounds_toArray, List.set_cons_zero, List.set_cons_succ]
          refine anyJ.ready (rs := [11]) (by kernel_rfl) (by simp) ?_
          refine AllJ.cons (o := ?_) ?_ (fun K hK => ?_) ?_
          rotate_left
          · simp only [List.getElem?_toArray, List.getElem?_cons_succ, List.getElem?_cons_zero]; rfl
          · refine step_appC _ rfl _ _ 26 rfl 39 _ 3 40 Tryz.underlying26 infoTg (by rfl) (by decide) B (.slice p.ta k p.tc) k _ (by rfl) (HOwn.out HT4.out.rd) _ 1 _ (by rfl) (src_cs w3 (tgC ⟨ux, sl, sd⟩) 39 3 rfl (by simp [Value.oneCell']) Tryz.underlying26) (by have := HK255.out; omega) HT4.out.rd.size ?_
            intro v5 w5 k1 k2 k3
            obtain ⟨a5, c5, hv5, -, -⟩ := owns_shape k1
            subst hv5
            have HG := Lib.hid (HGr.out HT4.out ⟨ux, sl, sd⟩ k1 k2 k3)
            have hr5 := HRk.out HT4.out k2
            have HR5 := Lib.hid hr5
            clear k1 k2 k3
            have y5 := blk_free hr5 6
            have c5' : w5.cell? ⟨rb, 6, none⟩ = some (.slice p.ta k p.tc) := HK6r.out _ hr5
            have HC5 := Lib.hid c5'
            clear hr5
            go_simp
            refine hK.out _ _ (HC5.out) ?_
            clear hK K hHeld
            intro hHeld
            try simp only [Act.put, List.setIfInBounds_toArray, List.set_cons_zero, List.set_cons_succ]
            refine anyJ.take3 (i := 12) (oi := ?_) (v := ?_) ?_ (by kernel_rfl) (by kernel_rfl) (by kernel_rfl) (by kernel_rfl) ?_ (Or.inl ⟨?_, ?_⟩) hHeld ?_
            rotate_left 2
            · simp only [List.getElem?_toArray, List.getElem?_cons_succ, List.getElem?_cons_zero]; rfl
            · exact fun _ _ _ h => h
            · rfl
            · intro w hSw; (try dsimp only at hSw); go_simp; try (with_reducible rfl)
            try simp only [Act.put, List.setIfInBounds_toArray, List.set_cons_zero, List.set_cons_succ]
            refine anyJ.take3 (i := 13) (oi := ?_) (v := ?_) ?_ (by kernel_rfl) (by kernel_rfl) (by kernel_rfl) (by kernel_rfl) ?_ (Or.inl ⟨?_, ?_⟩) hHeld ?_
            rotate_left 2
            · simp only [List.getElem?_toArray, List.getElem?_cons_succ, List.getElem?_cons_zero]; rfl
            · exact fun _ _ _ h => h
            · rfl
            · intro w hSw; (try dsimp only at hSw); go_simp; try (with_reducible rfl)
            try simp only [Act.put, List.setIfInBounds_toArray, List.set_cons_zero, List.set_cons_succ]
            refine anyJ.take3 (i := 14) (oi := ?_) (v := ?_) ?_ (by kernel_rfl) (by kernel_rfl) (by kernel_rfl) (by kernel_rfl) ?_ (Or.inl ⟨?_, ?_⟩) hHeld ?_
            rotate_left 2
            · simp only [List.getElem?_toArray, List.getElem?_cons_succ, List.getElem?_cons_zero]; rfl
            · exact fun _ _ _ h => h
            · rfl
            · intro w hSw; (try dsimp only at hSw); go_simp; try (with_reducible rfl)
            try simp only [Act.put, List.setIfInBounds_toArray, List.set_cons_zero, List.set_cons_succ]
            refine anyJ.ready (rs := [15]) (by kernel_rfl) (by simp) ?_
            refine AllJ.last (o := ?_) ?_ (fun K hK => ?_)
            rotate_left
            · simp only [List.getElem?_toArray, List.getElem?_cons_succ, List.getElem?_cons_zero]; rfl
            · go_simp
              refine hK.out _ _ ?_
              clear hK K
              try simp only [Act.put, List.setIfInBounds_toArray, List.set_cons_zero, List.set_cons_succ]
              refine anyJ.done (by kernel_rfl) ?_ _
              go_wp2_with fail
              have HT6 := Lib.hid HG.out
              generalize w5.setCell ⟨rb, 6, none⟩ (.slice a5 (k + 1) c5) = w6 at *
              clear y5 c5'
              refine region_J (S := (fun W => W.cell? ⟨rb, 7, none⟩ = some (.slice p.sa k p.sc) ∧ W.cell? ⟨rb, 3, none⟩ = some (.int .i64 y2))) (k := 17) (by kernel_rfl) (HK7.out _ _ _ _ (HT6.out.quiet ((Mod.refl [] w6).drew)).rd) (fun hHeld => ?_)
              refine anyJ.take3 (i := 0) (oi := ?_) (v := ?_) ?_ (by kernel_rfl) (by kernel_rfl) (by kernel_rfl) (by kernel_rfl) ?_ (Or.inl ⟨?_, ?_⟩) hHeld ?_
              rotate_left 2
              · simp only [List.getElem?_toArray, List.getElem?_cons_succ, List.getElem?_cons_zero]; rfl
              · exact fun _ _ _ h => h
              · rfl
              · intro w hSw; (try dsimp only at hSw); go_simp; try (with_reducible rfl)
              try simp only [Act.put, List.setIfInBounds_toArray, List.set_cons_zero, List.set_cons_succ]
              refine anyJ.take3 (i := 1) (oi := ?_) (v := ?_) ?_ (by kernel_rfl) (by kernel_rfl) (by kernel_rfl) (by kernel_rfl) ?_ (Or.inl ⟨?_, ?_⟩) hHeld ?_
              rotate_left 2
              · simp only [List.getElem?_toArray, List.getElem?_cons_succ, List.getElem?_cons_zero]; rfl
              · exact fun _ _ _ h => h
              · rfl
              · intro w hSw; (try dsimp only at hSw); go_simp; try (with_reducible rfl)
              try simp only [Act.put, List.setIfInBounds_toArray, List.set_cons_zero, List.set_cons_succ]
              refine anyJ.take3 (i := 2) (oi := ?_) (v := ?_) ?_ (by kernel_rfl) (by kernel_rfl) (by kernel_rfl) (by kernel_rfl) ?_ (Or.inl ⟨?_, ?_⟩) hHeld ?_
              rotate_left 2
              · simp only [List.getElem?_toArray, List.getElem?_cons_succ, List.getElem?_cons_zero]; rfl
              · exact fun _ _ _ h => h
              · rfl
              · intro w hSw; (try dsimp only at hSw); go_simp; try (with_reducible rfl)
              try simp only [Act.put, List.setIfInBounds_toArray, List.set_cons_zero, List.set_cons_succ]
              refine anyJ.take3 (i := 3) (oi := ?_) (v := ?_) ?_ (by kernel_rfl) (by kernel_rfl) (by kernel_rfl) (by kernel_rfl) ?_ (Or.inl ⟨?_, ?_⟩) hHeld ?_
              rotate_left 2
              · simp only [List.getElem?_toArray, List.getElem?_cons_succ, List.getElem?_cons_zero]; rfl
              · exact fun _ _ _ h => h
              · rfl
              · intro w hSw; (try dsimp only at hSw); go_simp; try (with_reducible rfl)
              try simp only [Act.put, List.setIfInBounds_toArray, List.set_cons_zero, List.set_cons_succ]
              refine anyJ.take3 (i := 4) (oi := ?_) (v := ?_) ?_ (by kernel_rfl) (by kernel_rfl) (by kernel_rfl) (by kernel_rfl) ?_ (Or.inl ⟨?_, ?_⟩) hHeld ?_
              rotate_left 2
              · simp only [List.getElem?_toArray, List.getElem?_cons_succ, List.getElem?_cons_zero]; rfl
              · exact fun _ _ _ h => h
              · rfl
              · intro w hSw; (try dsimp only at hSw); go_simp; try (with_reducible rfl)
              try simp only [Act.put, List.setIfInBounds_toArray, List.set_cons_zero, List.set_cons_succ]
              refine anyJ.take3 (i := 5) (oi := ?_) (v := ?_) ?_ (by kernel_rfl) (by kernel_rfl) (by kernel_rfl) (by kernel_rfl) ?_ (Or.inl ⟨?_, ?_⟩) hHeld ?_
              rotate_left 2
              · simp only [List.getElem?_toArray, List.getElem?_cons_succ, List.getElem?_cons_zero]; rfl
              · exact fun _ _ _ h => h
              · rfl
              · intro w hSw; (try dsimp only at hSw); go_simp; try (with_reducible rfl)
              try simp only [Act.put, List.setIfInBounds_toArray, List.set_cons_zero, List.set_cons_succ]
              refine anyJ.take3 (i := 6) (oi := ?_) (v := ?_) ?_ (by kernel_rfl) (by kernel_rfl) (by kernel_rfl) (by kernel_rfl) ?_ (Or.inl ⟨?_, ?_⟩) hHeld ?_
              rotate_left 2
              · simp only [List.getElem?_toArray, List.getElem?_cons_succ, List.getElem?_cons_zero]; rfl
              · exact fun _ _ _ h => h
              · rfl
              · intro w hSw; (try dsimp only at hSw); go_simp; try (with_reducible rfl)
              try simp only [Act.put, List.setIfInBounds_toArray, List.set_cons_zero, List.set_cons_succ]
              refine anyJ.take3 (i := 7) (oi := ?_) (v := ?_) ?_ (by kernel_rfl) (by kernel_rfl) (by kernel_rfl) (by kernel_rfl) ?_ (Or.inl ⟨?_, ?_⟩) hHeld ?_
              rotate_left 2
              · simp only [List.getElem?_toArray, List.getElem?_cons_succ, List.getElem?_cons_zero]; rfl
              · exact fun _ _ _ h => h
              · rfl
              · intro w hSw; (try dsimp only at hSw); go_simp; try (with_reducible rfl)
              try simp only [Act.put, List.setIfInBounds_toArray, List.set_cons_zero, List.set_cons_succ]
              refine anyJ.take3 (i := 8) (oi := ?_) (v := ?_) ?_ (by kernel_rfl) (by kernel_rfl) (by kernel_rfl) (by kernel_rfl) ?_ (Or.inl ⟨?_, ?_⟩) hHeld ?_
              rotate_left 2
              · simp only [List.getElem?_toArray, List.getElem?_cons_succ, List.getElem?_cons_zero]; rfl
              · exact fun _ _ _ h => h
              · rfl
              · intro w hSw; (try dsimp only at hSw); go_simp; try (with_reducible rfl)
              try simp only [Act.put, List.setIfInBounds_toArray, List.set_cons_zero, List.set_cons_succ]
              refine anyJ.take3 (i := 9) (oi := ?_) (v := ?_) ?_ (by kernel_rfl) (by kernel_rfl) (by kernel_rfl) (by kernel_rfl) ?_ (Or.inl ⟨?_, ?_⟩) hHeld ?_
              rotate_left 2
              · simp only [List.getElem?_toArray, List.getElem?_cons_succ, List.getElem?_cons_zero]; rfl
              · exact fun _ _ _ h => h
              · rfl
              · intro w hSw; (try dsimp only at hSw); go_simp; try (with_reducible rfl)
              try simp only [Act.put, List.setIfInBounds_toArray, List.set_cons_zero, List.set_cons_succ]
              refine anyJ.take3 (i := 10) (oi := ?_) (v := ?_) ?_ (by kernel_rfl) (by kernel_rfl) (by kernel_rfl) (by kernel_rfl) ?_ (Or.inl ⟨?_, ?_⟩) hHeld ?_
              rotate_left 2
              · simp only [List.getElem?_toArray, List.getElem?_cons_succ, List.getElem?_cons_zero]; rfl
              · exact fun _ _ _ h => h
              · rfl
              · intro w hSw; (try dsimp only at hSw); go_simp; try (with_reducible rfl)
              try simp only [Act.put, List.setIfInBounds_toArray, List.set_cons_zero, List.set_cons_succ]
              refine anyJ.ready (rs := [11]) (by kernel_rfl) (by simp) ?_
              refine AllJ.cons (o := ?_) ?_ (fun K hK => ?_) ?_
              rotate_left
              · simp only [List.getElem?_toArray, List.getElem?_cons_succ, List.getElem?_cons_zero]; rfl
              · go_simp
                go_at_call 9
                refine (fresh_any y2 _).mono ?_
                rintro e w7 ⟨rfl, hm7⟩
                have HT7 := Lib.hid ((HT6.out.quiet ((Mod.refl [] w6).drew)).quiet hm7)
                clear hm7
                go_simp
                refine hK.out _ _ (HK7.out _ _ _ _ HT7.out.rd) ?_
                clear hK K hHeld
                intro hHeld
                try simp only [Act.put, List.setIfInBounds_toArray, List.set_cons_zero, List.set_cons_succ]
                refine anyJ.ready (rs := [12]) (by kernel_rfl) (by simp) ?_
                refine AllJ.cons (o := ?_) ?_ (fun K hK => ?_) ?_
                rotate_left
                · simp only [List.getElem?_toArray, List.getElem?_cons_succ, List.getElem?_cons_zero]; rfl
                · go_simp
                  have HT8 := Lib.hid (HT7.out.quiet ((Mod.refl [] w7).alloc (.cells (stC (freshS y2)) 41)))
                  refine hK.out _ _ (HK7.out _ _ _ _ HT8.out.rd) ?_
                  clear hK K hHeld
                  intro hHeld
                  try simp only [Act.put, List.setIfInBounds_toArray, List.set_cons_zero, List.set_cons_succ]
                  refine anyJ.ready (rs := [13]) (by kernel_rfl) (by simp) ?_
                  refine AllJ.cons (o := ?_) ?_ (fun K hK => ?_) ?_
                  rotate_left
                  · simp only [List.getElem?_toArray, List.getElem?_cons_succ, List.getElem?_cons_zero]; rfl
                  · refine step_appC _ rfl _ _ 27 rfl 41 _ 4 32 Tryz.underlying27 infoSt (by rfl) (by decide) B (.slice p.sa k p.sc) k _ (by rfl) (HOwn2.out HT8.out.rd) _ 1 _ (by rfl) (src_cs w7 (stC (freshS y2)) 41 4 rfl (by simp [Value.oneCell']) Tryz.underlying27) (by have := HK255.out; omega) HT8.out.rd.size ?_
                    intro v9 w9 k1 k2 k3
                    obtain ⟨a9, c9, hv9, -, -⟩ := owns_shape k1
                    subst hv9
                    have HG2 := Lib.hid (HGr2.out HT8.out (freshS y2) k1 k2 k3)
                    have hr9 := HRk2.out HT8.out k2
                    have HR9 := Lib.hid hr9
                    clear k1 k2 k3
                    have y9 := blk_free hr9 7
                    have c9' := HK7r.out _ _ _ _ hr9
                    have HC9 := Lib.hid c9'
                    clear hr9
                    go_simp
                    refine hK.out _ _ (HC9.out) ?_
                    clear hK K hHeld
                    intro hHeld
                    try simp only [Act.put, List.setIfInBounds_toArray, List.set_cons_zero, List.set_cons_succ]
                    refine anyJ.take3 (i := 14) (oi := ?_) (v := ?_) ?_ (by kernel_rfl) (by kernel_rfl) (by kernel_rfl) (by kernel_rfl) ?_ (Or.inl ⟨?_, ?_⟩) hHeld ?_
                    rotate_left 2
                    · simp only [List.getElem?_toArray, List.getElem?_cons_succ, List.getElem?_cons_zero]; rfl
                    · exact fun _ _ _ h => h
                    · rfl
                    · intro w hSw; (try dsimp only at hSw); go_simp; try (with_reducible rfl)
                    try simp only [Act.put, List.setIfInBounds_toArray, List.set_cons_zero, List.set_cons_succ]
                    refine anyJ.take3 (i := 15) (oi := ?_) (v := ?_) ?_ (by kernel_rfl) (by kernel_rfl) (by kernel_rfl) (by kernel_rfl) ?_ (Or.inl ⟨?_, ?_⟩) hHeld ?_
                    rotate_left 2
                    · simp only [List.getElem?_toArray, List.getElem?_cons_succ, List.getElem?_cons_zero]; rfl
                    · exact fun _ _ _ h => h
                    · rfl
                    · intro w hSw; (try dsimp only at hSw); go_simp; try (with_reducible rfl)
                    try simp only [Act.put, List.setIfInBounds_toArray, List.set_cons_zero, List.set_cons_succ]
                    refine anyJ.take3 (i := 16) (oi := ?_) (v := ?_) ?_ (by kernel_rfl) (by kernel_rfl) (by kernel_rfl) (by kernel_rfl) ?_ (Or.inl ⟨?_, ?_⟩) hHeld ?_
                    rotate_left 2
                    · simp only [List.getElem?_toArray, List.getElem?_cons_succ, List.getElem?_cons_zero]; rfl
                    · exact fun _ _ _ h => h
                    · rfl
                    · intro w hSw; (try dsimp only at hSw); go_simp; try (with_reducible rfl)
                    try simp only [Act.put, List.setIfInBounds_toArray, List.set_cons_zero, List.set_cons_succ]
                    refine anyJ.ready (rs := [17]) (by kernel_rfl) (by simp) ?_
                    refine AllJ.last (o := ?_) ?_ (fun K hK => ?_)
                    rotate_left
                    · simp only [List.getElem?_toArray, List.getElem?_cons_succ, List.getElem?_cons_zero]; rfl
                    · have c9q := HC9.out.1
                      go_simp
                      refine hK.out _ _ ?_
                      clear hK K
                      try simp only [Act.put, List.setIfInBounds_toArray, List.set_cons_zero, List.set_cons_succ]
                      refine anyJ.done (by kernel_rfl) ?_ _
                      go_wp2_with fail
                      go_roundw
                      case rel => exact ⟨k + 1, ⟨a5, c5, a9, c9, p.ba, p.bc⟩, by go_num, by have := HKn.out; omega, by have h := HG2.out; obtain ⟨e1, e2⟩ := HEnd0.out _ HX.out; rw [e1, e2] at h; exact h⟩
                      case measure => have := HKn.out; simp [intOf]; omega
                  exact AllJ.nil
                exact AllJ.nil
              exact AllJ.nil
          exact AllJ.nil
        exact AllJ.nil
      exact AllJ.nil
    · have hkn : k = n := by omega
      subst hkn
      have HEnd : Hid (toldJ c0 = ⟨y1, y2, tl, td, tcsX k c4, List.replicate k (freshS y2), []⟩) := Lib.hid (by rw [HTJ.out, HTl.out, HTd.out, HNc.out, HC4.out])
      have HOk : Hid (toldOk c0 = (doneE (tcsN k c4).l (tcsN k c4).e == 0)) := Lib.hid (by unfold toldOk tcE cB; rw [HNc.out, HC4.out])
      go_wp2_with fail
      have hdn := done_any wr s g (tcsN k c4).l (tcsN k c4).e HT.out.src
      obtain ⟨d, hd⟩ : ∃ d, doneE (tcsN k c4).l (tcsN k c4).e = d := ⟨_, rfl⟩
      rw [hd] at hdn HOk
      clear hd
      refine hdn.mono ?_
      clear hdn
      rintro e w3 ⟨rfl, rfl⟩
      go_wp2_with fail
      go_ret
      exact ⟨by rw [HOk.out]; rfl, p, by rw [HEnd.out]; exact HT.out.rd⟩
end Go.Proofs.YtbhdlclaooohfaaGreatDoor

