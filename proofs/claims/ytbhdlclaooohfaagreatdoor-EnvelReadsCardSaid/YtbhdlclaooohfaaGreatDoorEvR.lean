import Derived.Test.YtbhdlclaooohfaaGreatDoorEvO
import Derived.Test.YtbhdlclaooohfaaGreatDoorFrX
/- Envel: what Read answers. -/
namespace Go.Proofs.YtbhdlclaooohfaaGreatDoor
open Go.Maps Go.Shelf Go.Proofs.YtbhdlclaooohfaaGreatDoor.Ad Go.ChangeShapes Go.WideShapes Go.ChangeAt Go.RowKit
set_option linter.unusedVariables false
set_option linter.unusedSimpArgs false

def rd1J (l : List Int) : Jb := toldJ ⟨(atF l ((0 : Nat) : Int)).pay, 0⟩
def rd1 (l : List Int) : Bool := takeB l 0 16 (toldOk ⟨(atF l ((0 : Nat) : Int)).pay, 0⟩)
def rdU1 (l : List Int) : Nat := (atF l ((0 : Nat) : Int)).len.toNat
def rd2 (l : List Int) : Bool := takeB l (rdU1 l) 17 true
def rd2J (l : List Int) : Jb := { rd1J l with body := (atF l (rdU1 l)).pay }
def rdU2 (l : List Int) : Nat := rdU1 l + (atF l (rdU1 l)).len.toNat
def rdOk (l : List Int) : Bool := rd1 l && (rd2 l && goodJ (rd2J l))
def stK (l : List Int) : Nat → Nat × Jb
  | 0 => (rdU2 l, rd2J l)
  | k + 1 => ((stK l k).1 + (atF l (stK l k).1).len.toNat, stepJ ⟨(atF l (stK l k).1).pay, 0⟩ (stK l k).2)
def stT (l : List Int) (k : Nat) : Bool := takeB l (stK l k).1 18 (scOk ⟨(atF l (stK l k).1).pay, 0⟩ (stK l k).2.sts.length)
/-- what Read answers: the job, how many bytes, the error -/
def ReadsTo (l : List Int) (j : Jb) (u er : Int) : Prop :=
  (rdOk l = false ∧ j = jz ∧ u = 0 ∧ er = 12) ∨ (rdOk l = true ∧ er = 0 ∧ ∃ k, (∀ i, i < k → stT l i = true) ∧ stT l k = false ∧ j = (stK l k).2 ∧ u = (stK l k).1)
theorem takeB_hit {l : List Int} {u : Nat} {kind : Int} {ok : Bool} (h : takeB l u kind ok = true) : atE l u = 0 ∧ (atF l u).kind = kind ∧ ok = true := by
  unfold takeB hitB at h
  simp only [Bool.and_eq_true, decide_eq_true_eq] at h
  exact ⟨h.1.1, h.1.2, h.2⟩
theorem hit_at {l : List Int} {u : Nat} {kind : Int} (h : hitB l u kind = true) : atE l u = 0 := by
  unfold hitB at h
  simp only [Bool.and_eq_true, decide_eq_true_eq] at h
  exact h.1
theorem frlen {l : List Int} (hb : Bytes l) {u : Nat} (h : atE l u = 0) : ((atF l u).len.toNat : Int) = (atF l u).len ∧ 10 ≤ (atF l u).len.toNat ∧ u + (atF l u).len.toNat ≤ l.length := by
  have hf := (at_ok hb h).1
  have h1 := hf.len
  have h2 := hf.le
  have h3 := (wrapL_length (atF l u).kind (atF l u).pay).1
  omega
theorem cT_len (c : Cr) : (cT c).length ≤ 64 := by
  unfold cT srcTV
  split
  · rename_i h
    rw [List.length_take]
    unfold srcTE at h
    by_cases h1 : c.e = 0
    · simp only [h1, ne_eq, not_true, if_false] at h
      by_cases h2 : c.l.length < 4
      · simp [h2] at h
      · simp only [h2, if_false] at h
        by_cases h3 : (64 : Int) < srcTN c.l
        · simp [h3] at h
        · omega
    · simp [h1] at h
  · simp
theorem mbF_size (c : Cr) : (mbF c).size ≤ 64 := by unfold mbF; rw [size_strOfNums]; exact cT_len c
theorem mbD_size (c : Cr) : (mbD c).size ≤ 64 := by unfold mbD; rw [size_strOfNums]; exact cT_len _
theorem tcsX_small : ∀ (n : Nat) (c : Cr), SmallT (tcsX n c)
  | 0, c => fun t h => by cases h
  | n + 1, c => fun t h => by
    rcases List.mem_cons.1 h with rfl | h
    · exact ⟨Nat.le_trans (mbF_size _) (by decide), Nat.le_trans (mbD_size _) (by decide)⟩
    · exact tcsX_small n (tcN c) t h
theorem srcTL_bytes {l : List Int} (h : Bytes l) (e k : Int) : Bytes (srcTL l e k) := by unfold srcTL; split; exact h.drop _; exact h
theorem mbN_bytes {c : Cr} (h : Bytes c.l) : Bytes (mbN c).l := srcTL_bytes (srcTL_bytes h _ _) _ _
theorem tcC_lt {c : Cr} (h : Bytes c.l) : tcC c < 256 := by
  have hb : Bytes (tc3 c).l := mbN_bytes (cUs_bytes (cUs_bytes h 8) 8)
  have := cU_byte hb
  unfold tcC; omega
theorem toldJ_small {c : Cr} (h : Bytes c.l) (b : List Int) : SmallJ { toldJ c with body := b } := by
  have hn := tcC_lt h
  refine ⟨Nat.le_trans (mbF_size _) (by decide), Nat.le_trans (mbD_size _) (by decide), tcsX_small _ _, ?_, ?_⟩
  · show (tcsX _ _).length ≤ _
    rw [tcsX_length]; omega
  · show (List.replicate _ _).length ≤ _
    rw [List.length_replicate]; omega
theorem stepJ_len (c : Cr) (j : Jb) : (stepJ c j).sts.length = j.sts.length := by unfold stepJ; split <;> simp
theorem stK_len (l : List Int) : ∀ k, (stK l k).2.sts.length = (rd2J l).sts.length
  | 0 => rfl
  | k + 1 => by
    show (stepJ _ _).sts.length = _
    rw [stepJ_len, stK_len l k]
theorem rd2J_len {l : List Int} (h : Bytes (atF l ((0 : Nat) : Int)).pay) : (rd2J l).sts.length ≤ 255 := by
  have := tcC_lt (c := ⟨(atF l ((0 : Nat) : Int)).pay, 0⟩) h
  show (List.replicate _ _).length ≤ _
  rw [List.length_replicate]; omega
/-- the reading functions, as take wants them -/
theorem reads_told {w0 : World} {rb : Nat} {a : Option Addr} {n c : Nat} {pl : List Int} (hl : pl.length ≤ 100000) (h0 : 0 < w0.heap.size) : Reads w0 rb a n c 14 0 pl jz pz (toldOk ⟨pl, 0⟩) (toldJ ⟨pl, 0⟩) (toldJ ⟨pl, 0⟩) := by
  intro ks W pa pn pc h hp hn hc
  refine (told_any h pa pn pc pl hp hn hl h0).mono ?_
  rintro e w' ⟨rfl, p', h'⟩
  exact ⟨rfl, p', by cases toldOk ⟨pl, 0⟩ <;> exact h'⟩
theorem reads_body {w0 : World} {rb : Nat} {a : Option Addr} {n c u : Nat} {pl : List Int} {j : Jb} {p : JA} : Reads w0 rb a n c 15 u pl j p true { j with body := pl } { j with body := pl } := by
  intro ks W pa pn pc h hp hn hc
  refine (body_any h pa pn pc pl hp hn hc).mono ?_
  rintro e w' ⟨rfl, h'⟩
  exact ⟨rfl, _, h'⟩
theorem reads_state {w0 : World} {rb : Nat} {a : Option Addr} {n c u : Nat} {pl : List Int} {j : Jb} {p : JA} (hl : pl.length ≤ 100000) (h0 : 0 < w0.heap.size) (hs : j.sts.length ≤ 255) : Reads w0 rb a n c 17 u pl j p (scOk ⟨pl, 0⟩ j.sts.length) (stepJ ⟨pl, 0⟩ j) (stepJ ⟨pl, 0⟩ j) := by
  intro ks W pa pn pc h hp hn hc
  refine (state_any h pa pn pc pl hp hn hl h0 hs).mono ?_
  rintro e w' ⟨rfl, h'⟩
  exact ⟨rfl, p, by cases scOk ⟨pl, 0⟩ j.sts.length <;> exact h'⟩
set_option maxRecDepth 100000 in
theorem enters_told : Enters Tryz.prog 14 := fun _ _ => rfl
set_option maxRecDepth 100000 in
theorem enters_body : Enters Tryz.prog 15 := fun _ _ => rfl
set_option maxRecDepth 100000 in
theorem enters_state : Enters Tryz.prog 17 := fun _ _ => rfl
/-- a job's rows lie in blocks from B on -/
structure JobFar (B : Nat) (j : Jb) (p : JA) : Prop where
  to : j.to = [] ∨ ∀ x, p.ta = some x → B ≤ x.block
  sts : j.sts = [] ∨ ∀ x, p.sa = some x → B ≤ x.block
  body : j.body = [] ∨ ∀ x, p.ba = some x → B ≤ x.block
theorem JobAt.far {B : Nat} {w w' : World} {j : Jb} {p : JA} {g : Nat} (h : JobAt w j p) (hf : JobFar B j p) (hm : Mod [g] w w') (hg : g < B) : JobAt w' j p := by
  refine ⟨?_, ?_, ?_, h.tn, h.sn, h.bn⟩
  · rcases hf.to with e | e
    · rw [e]; exact .inl rfl
    · exact h.to.mod tgC_size hm (fun x hx hc => by simp at hc; have := e x hx; omega)
  · rcases hf.sts with e | e
    · rw [e]; exact .inl rfl
    · exact h.sts.mod stC_size hm (fun x hx hc => by simp at hc; have := e x hx; omega)
  · rcases hf.body with e | e
    · rw [e]; exact Cells8.nil _ _
    · exact h.body.mod hm (fun x hx hc => by simp at hc; have := e x hx; omega)
theorem JobFar.zero (B : Nat) : JobFar B jz pz := ⟨.inl rfl, .inl rfl, .inl rfl⟩
theorem RdW.far {B B' : Nat} {w0 w : World} {rb : Nat} {f : FA} {used : Int} {j : Jb} {p : JA} (h : RdW B w0 w rb f used j p) (hB : B' ≤ B) : JobFar B' j p := by
  refine ⟨.inr fun x hx => ?_, .inr fun x hx => ?_, ?_⟩
  · exact Nat.le_trans hB (h.to.lt x.block (by rw [hx]; rfl)).1
  · exact Nat.le_trans hB (h.sts.lt x.block (by rw [hx]; rfl)).1
  · rcases h.body.2 with e | ⟨y, cur, hy, hb, _⟩
    · exact .inl e
    · refine .inr fun x hx => ?_
      rw [hy] at hx
      cases hx
      exact Nat.le_trans hB hb
def ReadP (l : List Int) (w : World) (e : Ending) (w' : World) : Prop := ∃ (j : Jb) (p : JA) (u er : Int), e = .returned (.tuple #[.agg (jbC j p), .int .i64 u, .int .i64 er]) ∧ JobAt w' j p ∧ Below w.heap.size w w' ∧ ReadsTo l j u er ∧ JobFar w.heap.size j p
theorem jobAt_zero (w : World) : JobAt w jz pz := ⟨.inl rfl, .inl rfl, Cells8.nil _ _, Nat.le_refl _, Nat.le_refl _, Nat.le_refl _⟩
/-- what was read, behind a store to an elder block -/
theorem RdW.jobMod {B : Nat} {w0 w w' : World} {rb : Nat} {f : FA} {used : Int} {j : Jb} {p : JA} {g : Nat} (h : RdW B w0 w rb f used j p) (hm : Mod [g] w w') (hg : g < B) : JobAt w' j p :=
  ⟨CellsK.ofOwns tgC_size (by decide) (hm.owns h.to (fun k hk hx => by simp at hx; have := (h.to.lt k hk).1; omega)) rfl, CellsK.ofOwns stC_size (by decide) (hm.owns h.sts (fun k hk hx => by simp at hx; have := (h.sts.lt k hk).1; omega)) rfl, (h.body.mod hm (fun x hB hx => by simp at hx; omega)).1, owns_le h.to, owns_le h.sts, h.bn⟩
/-- a reader that is new -/
theorem RdW.new (w0 : World) (a : Option Addr) (n c : Nat) : RdW w0.heap.size w0 (w0.alloc (.cells (rdrC ⟨a, n, c, []⟩ 0 jz pz) 48)) w0.heap.size ⟨a, n, c, []⟩ 0 jz pz := by
  have hm : Mod [] w0 (w0.alloc (.cells (rdrC ⟨a, n, c, []⟩ 0 jz pz) 48)) := (Mod.refl [] w0).alloc _
  exact ⟨heap_alloc_new w0 _, World.ownsRow_nil _ _ _ _, World.ownsRow_nil _ _ _ _, ⟨Cells8.nil _ _, .inl rfl⟩, Nat.le_refl _, hm.toBelow (Nat.le_refl _) (by simp), hm.size, Nat.le_refl _, by simp⟩
end Go.Proofs.YtbhdlclaooohfaaGreatDoor

/- Envel: Read, walked. -/
namespace Go.Proofs.YtbhdlclaooohfaaGreatDoor
open Go.Maps Go.Shelf Go.Proofs.YtbhdlclaooohfaaGreatDoor.Ad Go.ChangeShapes Go.WideShapes Go.ChangeAt Go.RowKit
set_option linter.unusedVariables false
set_option linter.unusedSimpArgs false

theorem res_cell_tmp2_row {P : Program} {fn : Func} {p u u' : Tmp} {ty : TypeId} (h : fn.results = #[.cell p ty, .tmp u, .tmp u']) (tmps : Array Value) (w : World) (g : Nat) (t : TypeId) (cs : Array Value) (fr : Nat × Nat) (d : TypeDesc)
    (hp : tmps.getD p undef = .pointer (some ⟨g, 0, none⟩)) (hg : w.heap[g]? = some (.cells cs t fr))
    (hu : P.underlying ty = some d) (hd : (match d with | .struct _ | .array _ _ => true | _ => false) = true) (hi : (P.info? ty).map (·.size) = some cs.size) (v v' : Value) (hv : tmps.getD u undef = v) (hv' : tmps.getD u' undef = v') :
    (results fn tmps).run P w = .ok (.tuple #[.agg cs, v, v']) w := by
  have hp' : tmps[p]?.getD undef = .pointer (some ⟨g, 0, none⟩) := by simpa using hp
  have hv1 : tmps[u]?.getD undef = v := by simpa using hv
  have hv2 : tmps[u']?.getD undef = v' := by simpa using hv'
  simp [results, h, hp', hv1, hv2, asAddr, run_loadVar_row w g t ty cs fr d hg hu hd hi]
theorem jb_one (j : Jb) (p : JA) : (jbC j p).all (·.oneCell') = true := by simp [jbC, Value.oneCell']
set_option maxRecDepth 100000 in
set_option maxHeartbeats 8000000 in
theorem read_job (l : List Int) (a : Option Addr) (n c : Nat) (w : World) (hf : Cells8 w a l) (hn : n = l.length) (hc : l.length ≤ c) (hl : l.length ≤ 10000000) (ht : Halves w) :
    Calls Tryz.prog 5 #[.slice a n c] w (ReadP l w) := by
  have hb := hf.1
  have h0 : 0 < w.heap.size := Nat.lt_of_le_of_lt (Nat.zero_le _) (World.block_lt_of_cell? w _ (ht 0 (by decide)))
  obtain ⟨w0, hw0⟩ : ∃ w0, w.alloc (.cells (jbC jz pz) 29) = w0 := ⟨_, rfl⟩
  have hm0 : Mod [] w w0 := by rw [← hw0]; exact (Mod.refl [] w).alloc _
  have hres : w0.heap[w.heap.size]? = some (.cells (jbC jz pz) 29 (0, 0)) := by rw [← hw0]; exact heap_alloc_new w _
  have hf0 := hf.mod hm0 (by simp)
  have ht0 := ht.old (hm0.toBelow (Nat.le_refl _) (by simp))
  have hw0' : w.alloc (.cells #[.int .i64 0, .int .i64 0, .string ⟨#[]⟩, .string ⟨#[]⟩, .slice none 0 0, .slice none 0 0, .slice none 0 0] 29) = w0 := hw0
  have hsz : w0.heap.size = w.heap.size + 1 := by rw [← hw0]; simp
  obtain ⟨rb, hrb⟩ : ∃ rb, w.heap.size + 1 = rb := ⟨_, rfl⟩
  have hrb0 : w0.heap.size = rb := by rw [hsz, hrb]
  have HN : Hid (RdW w0.heap.size w0 (w0.alloc (.cells (rdrC ⟨a, n, c, []⟩ 0 jz pz) 48)) rb ⟨a, n, c, []⟩ ((0 : Nat) : Int) jz pz) := Lib.hid (by rw [← hrb0]; exact RdW.new w0 a n c)
  have HTk := Lib.hid (fun (W : World) (u : Nat) (j : Jb) (p : JA) (h : RdW w0.heap.size w0 W rb ⟨a, n, c, []⟩ u j p) (hu : u ≤ 1000000000) => fun kind fn hent ok jy jn hC hlen => rtake_any h hf0 hn hc (by omega) hu ht0 kind fn hent ok jy jn hC hlen)
  unfold TakeP at HTk
  have HB := Lib.hid hb
  have HM0 := Lib.hid hm0
  have HRes := Lib.hid hres
  have HPos := Lib.hid (show 0 < w0.heap.size by omega)
  have HFl := Lib.hid (fun (u : Nat) (h : atE l u = 0) => frlen hb h)
  have HFo := Lib.hid (fun (u : Nat) (h : atE l u = 0) => (at_ok hb h).1)
  have HL := Lib.hid hl
  have HRb := Lib.hid hrb0
  have HLt : Hid (w.heap.size < rb) := Lib.hid (by omega)
  have HT1 := Lib.hid (HTk.out _ 0 jz pz HN.out (by omega) 16 _ enters_told (toldOk ⟨(atF l ((0 : Nat) : Int)).pay, 0⟩) (rd1J l) (rd1J l) (fun h => reads_told (by have := (HFo.out 0 (hit_at h)).plen; omega) HPos.out) (fun h => by have := HFl.out 0 h; have := HL.out; omega))
  have HRd : Hid (rdOk l = (takeB l 0 16 (toldOk ⟨(atF l ((0 : Nat) : Int)).pay, 0⟩) && (rd2 l && goodJ (rd2J l)))) := Lib.hid rfl
  unfold ReadP
  clear hn hc ht h0 hm0 hf hf0 ht0 hres hb hl hw0 hsz
  cases hb1 : takeB l 0 16 (toldOk ⟨(atF l ((0 : Nat) : Int)).pay, 0⟩)
  · rw [hb1] at HT1 HRd
    clear hb1
    go_enter Tryz.func5, Tryz.ntmps5
    go_wp2_with fail
    refine HT1.out.mono ?_
    rintro e w1 ⟨rfl, p1, h1⟩
    have HR1 := Lib.hid h1
    clear h1 hw0' hrb hrb0
    have HNo : Hid (rdOk l = false) := Lib.hid (by rw [HRd.out]; rfl)
    have HResK := Lib.hid (((HR1.out.below).block w.heap.size (by have := HLt.out; have := HRb.out; omega)).trans HRes.out)
    have HBK := Lib.hid (HR1.out.below)
    go_wp2_with (first | (refine wpList_store_all (by rfl) _ _ _ (by rfl) rfl w.heap.size 29 (jbC jz pz) (jbC jz pz) rfl rfl jb_size (jb_one _ _) rfl HResK.out ?_; intro w9 hw9 mw9; have HW9 := Lib.hid hw9; have HM9 := Lib.hid mw9; clear hw9 mw9))
    exact bodyPost_ret (v := .tuple #[.agg (jbC jz pz), .int .i64 0, .int .i64 12]) (res_cell_tmp2_row rfl _ _ w.heap.size 29 (jbC jz pz) (0, 0) _ rfl HW9.out Tryz.underlying29 rfl jb_size _ _ rfl rfl) rfl ⟨jz, pz, 0, 12, rfl, jobAt_zero _, ((HM0.out.toBelow (Nat.le_refl _) (by simp)).trans ((HBK.out.mono HM0.out.size).trans (HM9.out.toBelow (Nat.le_trans HM0.out.size HBK.out.size) (by simp)))), .inl ⟨HNo.out, rfl, rfl, rfl⟩, JobFar.zero _⟩
  have hr1 := takeB_hit hb1
  have HU1 : Hid (takeU l 0 true = ((rdU1 l : Nat) : Int)) := Lib.hid (by have := HFl.out 0 hr1.1; show ((0 : Nat) : Int) + (atF l ((0 : Nat) : Int)).len = (((atF l ((0 : Nat) : Int)).len.toNat : Nat) : Int); omega)
  have HJ1 : Hid (takeJ (hitB l 0 16) (toldOk ⟨(atF l ((0 : Nat) : Int)).pay, 0⟩) jz (rd1J l) (rd1J l) = rd1J l) := Lib.hid (by
    have hh : hitB l 0 16 = true := by unfold hitB; rw [hr1.1, hr1.2.1]; rfl
    rw [hh]; unfold takeJ; simp)
  have HU1l : Hid (rdU1 l ≤ l.length) := Lib.hid (by have := (HFl.out 0 hr1.1).2.2; unfold rdU1; omega)
  have HPB : Hid (Bytes (atF l ((0 : Nat) : Int)).pay) := Lib.hid (HFo.out 0 hr1.1).bytes
  rw [hb1, HU1.out, HJ1.out] at HT1
  rw [hb1] at HRd
  have HT2 := Lib.hid (fun W p h => HTk.out W (rdU1 l) (rd1J l) p h (by have := HU1l.out; have := HL.out; omega) 17 _ enters_body true (rd2J l) (rd2J l) (fun h => reads_body) (fun h => by have := HFl.out _ h; have := HL.out; omega))
  have HRd2 : Hid (rd2 l = takeB l (rdU1 l) 17 true) := Lib.hid rfl
  clear hb1 hr1
  cases hb2 : takeB l (rdU1 l) 17 true
  · rw [hb2] at HT2 HRd2
    clear hb2
    go_enter Tryz.func5, Tryz.ntmps5
    go_wp2_with fail
    refine HT1.out.mono ?_
    rintro e w1 ⟨rfl, p1, h1⟩
    have HR1 := Lib.hid h1
    clear h1 hw0' hrb hrb0
    go_wp2_with fail
    refine (HT2.out _ _ HR1.out).mono ?_
    rintro e w2 ⟨rfl, p2, h2⟩
    have HR2 := Lib.hid h2
    clear h2
    have HNo : Hid (rdOk l = false) := Lib.hid (by rw [HRd.out, HRd2.out]; rfl)
    have HResK := Lib.hid (((HR2.out.below).block w.heap.size (by have := HLt.out; have := HRb.out; omega)).trans HRes.out)
    have HBK := Lib.hid (HR2.out.below)
    go_wp2_with (first | (refine wpList_store_all (by rfl) _ _ _ (by rfl) rfl w.heap.size 29 (jbC jz pz) (jbC jz pz) rfl rfl jb_size (jb_one _ _) rfl HResK.out ?_; intro w9 hw9 mw9; have HW9 := Lib.hid hw9; have HM9 := Lib.hid mw9; clear hw9 mw9))
    exact bodyPost_ret (v := .tuple #[.agg (jbC jz pz), .int .i64 0, .int .i64 12]) (res_cell_tmp2_row rfl _ _ w.heap.size 29 (jbC jz pz) (0, 0) _ rfl HW9.out Tryz.underlying29 rfl jb_size _ _ rfl rfl) rfl ⟨jz, pz, 0, 12, rfl, jobAt_zero _, ((HM0.out.toBelow (Nat.le_refl _) (by simp)).trans ((HBK.out.mono HM0.out.size).trans (HM9.out.toBelow (Nat.le_trans HM0.out.size HBK.out.size) (by simp)))), .inl ⟨HNo.out, rfl, rfl, rfl⟩, JobFar.zero _⟩
  have hr2 := takeB_hit hb2
  have HU2 : Hid (takeU l (rdU1 l) true = ((rdU2 l : Nat) : Int)) := Lib.hid (by have := HFl.out _ hr2.1; show ((rdU1 l : Nat) : Int) + (atF l (rdU1 l : Nat)).len = ((rdU1 l + (atF l (rdU1 l : Nat)).len.toNat : Nat) : Int); omega)
  have HJ2 : Hid (takeJ (hitB l (rdU1 l) 17) true (rd1J l) (rd2J l) (rd2J l) = rd2J l) := Lib.hid (by
    have hh : hitB l (rdU1 l) 17 = true := by unfold hitB; rw [hr2.1, hr2.2.1]; rfl
    rw [hh]; unfold takeJ; simp)
  have HU2l : Hid (rdU2 l ≤ l.length) := Lib.hid (by have := (HFl.out _ hr2.1).2.2; unfold rdU2; omega)
  rw [hb2, HU2.out, HJ2.out] at HT2
  rw [hb2] at HRd2
  have HGd := Lib.hid (fun W p (h : RdW w0.heap.size w0 W rb ⟨a, n, c, []⟩ (rdU2 l : Nat) (rd2J l) p) => good_job W (rd2J l) p h.job (toldJ_small HPB.out _))
  unfold StP at HGd
  have HRb2 := Lib.hid (rd2J_len HPB.out)
  clear hb2 hr2
  cases hb3 : goodJ (rd2J l)
  · rw [hb3] at HGd HRd
    clear hb3
    go_enter Tryz.func5, Tryz.ntmps5
    go_wp2_with fail
    refine HT1.out.mono ?_
    rintro e w1 ⟨rfl, p1, h1⟩
    have HR1 := Lib.hid h1
    clear h1 hw0' hrb hrb0
    go_wp2_with fail
    refine (HT2.out _ _ HR1.out).mono ?_
    rintro e w2 ⟨rfl, p2, h2⟩
    have HR2 := Lib.hid h2
    have r2 := blk_cell h2.row 2
    have r3 := blk_cell h2.row 3
    have r4 := blk_cell h2.row 4
    have r5 := blk_cell h2.row 5
    have r6 := blk_cell h2.row 6
    have r7 := blk_cell h2.row 7
    have r8 := blk_cell h2.row 8
    clear h2
    go_wp2_with fail
    refine (HGd.out _ _ HR2.out).mono ?_
    rintro e w3 ⟨rfl, hm3⟩
    have HR3 := Lib.hid (HR2.out.quiet hm3)
    clear hm3 r2 r3 r4 r5 r6 r7 r8
    have HNo : Hid (rdOk l = false) := Lib.hid (by rw [HRd.out]; simp)
    have HResK := Lib.hid (((HR3.out.below).block w.heap.size (by have := HLt.out; have := HRb.out; omega)).trans HRes.out)
    have HBK := Lib.hid (HR3.out.below)
    go_wp2_with (first | (refine wpList_store_all (by rfl) _ _ _ (by rfl) rfl w.heap.size 29 (jbC jz pz) (jbC jz pz) rfl rfl jb_size (jb_one _ _) rfl HResK.out ?_; intro w9 hw9 mw9; have HW9 := Lib.hid hw9; have HM9 := Lib.hid mw9; clear hw9 mw9))
    exact bodyPost_ret (v := .tuple #[.agg (jbC jz pz), .int .i64 0, .int .i64 12]) (res_cell_tmp2_row rfl _ _ w.heap.size 29 (jbC jz pz) (0, 0) _ rfl HW9.out Tryz.underlying29 rfl jb_size _ _ rfl rfl) rfl ⟨jz, pz, 0, 12, rfl, jobAt_zero _, ((HM0.out.toBelow (Nat.le_refl _) (by simp)).trans ((HBK.out.mono HM0.out.size).trans (HM9.out.toBelow (Nat.le_trans HM0.out.size HBK.out.size) (by simp)))), .inl ⟨HNo.out, rfl, rfl, rfl⟩, JobFar.zero _⟩
  rw [hb3] at HGd HRd
  have HYes : Hid (rdOk l = true) := Lib.hid (by rw [HRd.out, HRd2.out]; rfl)
  clear hb3
  have HSt0 : Hid (stK l 0 = (rdU2 l, rd2J l)) := Lib.hid rfl
  go_enter Tryz.func5, Tryz.ntmps5
  go_wp2_with fail
  refine HT1.out.mono ?_
  rintro e w1 ⟨rfl, p1, h1⟩
  have HR1 := Lib.hid h1
  clear h1 hw0' hrb hrb0
  go_wp2_with fail
  refine (HT2.out _ _ HR1.out).mono ?_
  rintro e w2 ⟨rfl, p2, h2⟩
  have HR2 := Lib.hid h2
  have r2 := blk_cell h2.row 2
  have r3 := blk_cell h2.row 3
  have r4 := blk_cell h2.row 4
  have r5 := blk_cell h2.row 5
  have r6 := blk_cell h2.row 6
  have r7 := blk_cell h2.row 7
  have r8 := blk_cell h2.row 8
  clear h2
  go_wp2_with fail
  refine (HGd.out _ _ HR2.out).mono ?_
  rintro e w3 ⟨rfl, hm3⟩
  have HR3 := Lib.hid (HR2.out.quiet hm3)
  clear hm3 r2 r3 r4 r5 r6 r7 r8
  go_wp2_with fail
  go_loopg [] (l.length - rdU2 l) (fun gk wr => ∃ (k : Nat) (p : JA), l.length = gk + (stK l k).1 ∧ (∀ i, i < k → stT l i = true) ∧ RdW w0.heap.size w0 wr rb ⟨a, n, c, []⟩ ((stK l k).1 : Nat) (stK l k).2 p)
  case atStart => exact ⟨0, p2, by have := HU2l.out; rw [HSt0.out]; show l.length = (l.length - rdU2 l) + rdU2 l; omega, by omega, HR3.out⟩
  case round =>
    obtain ⟨k, p, hgk, hall, hrd⟩ := hrel
    have HGk := Lib.hid hgk
    have HAll := Lib.hid hall
    have HR := Lib.hid hrd
    have HT := Lib.hid (HTk.out _ _ _ _ hrd (by have := HL.out; omega) 18 _ enters_state (scOk ⟨(atF l (stK l k).1).pay, 0⟩ (stK l k).2.sts.length) (stepJ ⟨(atF l (stK l k).1).pay, 0⟩ (stK l k).2) (stepJ ⟨(atF l (stK l k).1).pay, 0⟩ (stK l k).2) (fun h => reads_state (by have := (HFo.out _ (hit_at h)).plen; omega) HPos.out (by rw [stK_len]; exact HRb2.out)) (fun h => by have := HFl.out _ h; have := HL.out; omega))
    have HJe : Hid (takeJ (hitB l (stK l k).1 18) (scOk ⟨(atF l (stK l k).1).pay, 0⟩ (stK l k).2.sts.length) (stK l k).2 (stepJ ⟨(atF l (stK l k).1).pay, 0⟩ (stK l k).2) (stepJ ⟨(atF l (stK l k).1).pay, 0⟩ (stK l k).2) = if stT l k = true then (stK l (k + 1)).2 else (stK l k).2) := Lib.hid (by
      show _ = if stT l k = true then stepJ ⟨(atF l (stK l k).1).pay, 0⟩ (stK l k).2 else (stK l k).2
      unfold takeJ stT takeB
      cases hh : hitB l (stK l k).1 18
      · simp
      · cases ho : scOk ⟨(atF l (stK l k).1).pay, 0⟩ (stK l k).2.sts.length
        · simp [stepJ_no ho]
        · simp)
    have HTT : Hid (stT l k = takeB l (stK l k).1 18 (scOk ⟨(atF l (stK l k).1).pay, 0⟩ (stK l k).2.sts.length)) := Lib.hid rfl
    rw [← HTT.out, HJe.out] at HT
    clear hgk hall hrd
    cases hbk : stT l k
    · rw [hbk] at HT
      have HNot := Lib.hid hbk
      have HU : Hid (takeU l (stK l k).1 false = (((stK l k).1 : Nat) : Int)) := Lib.hid rfl
      rw [HU.out] at HT
      clear hbk
      go_wp2_with fail
      refine HT.out.mono ?_
      rintro e w5 ⟨rfl, p5, h5⟩
      have h5 : RdW w0.heap.size w0 w5 rb ⟨a, n, c, []⟩ ((stK l k).1 : Nat) (stK l k).2 p5 := h5
      have HR5 := Lib.hid h5
      have HResK := Lib.hid ((h5.below.block w.heap.size (by have := HLt.out; have := HRb.out; omega)).trans HRes.out)
      have HJob := Lib.hid h5.job
      have HRow := Lib.hid h5.row
      clear h5
      obtain ⟨uu, hu⟩ : ∃ uu : Int, (((stK l k).1 : Nat) : Int) = uu := ⟨_, rfl⟩
      obtain ⟨jj, hj⟩ : ∃ jj, (stK l k).2 = jj := ⟨_, rfl⟩
      rw [hu, hj] at HRow HR5
      rw [hj] at HJob
      have HUu := Lib.hid hu
      have HJj := Lib.hid hj
      clear hu hj
      go_wp2_with fail
      refine wp_region_held_drew (S := (fun W => W.cell? ⟨rb, 1, none⟩ = some (.int .i64 uu) ∧ W.cell? ⟨rb, 2, none⟩ = some (.int .i64 jj.id) ∧ W.cell? ⟨rb, 3, none⟩ = some (.int .i64 jj.arr) ∧ W.cell? ⟨rb, 4, none⟩ = some (.string jj.fl) ∧ W.cell? ⟨rb, 5, none⟩ = some (.string jj.fd) ∧ W.cell? ⟨rb, 6, none⟩ = some (.slice p5.ta jj.to.length p5.tc) ∧ W.cell? ⟨rb, 7, none⟩ = some (.slice p5.sa jj.sts.length p5.sc) ∧ W.cell? ⟨rb, 8, none⟩ = some (.slice p5.ba jj.body.length p5.bc))) (by kernel_rfl) (⟨blk_cell (blk_drew HRow.out) 1, blk_cell (blk_drew HRow.out) 2, blk_cell (blk_drew HRow.out) 3, blk_cell (blk_drew HRow.out) 4, blk_cell (blk_drew HRow.out) 5, blk_cell (blk_drew HRow.out) 6, blk_cell (blk_drew HRow.out) 7, blk_cell (blk_drew HRow.out) 8⟩) (fun hHeld => ?_)
      refine wpAnyH_take (i := 0) (oi := ?_) (v := ?_) ?_ (by kernel_rfl) (by kernel_rfl) (by kernel_rfl) ?_ (Or.inl ⟨?_, ?_⟩) hHeld ?_
      rotate_left 2
      · simp only [List.getElem?_toArray, List.getElem?_cons_succ, List.getElem?_cons_zero]; rfl
      · exact fun _ _ _ h => h
      · rfl
      · intro w hSw; (try dsimp only at hSw); go_simp; try (with_reducible rfl)
      try simp only [Act.put, List.setIfInBounds_toArray, List.set_cons_zero, List.set_cons_succ]
      refine wpAnyH_take (i := 1) (oi := ?_) (v := ?_) ?_ (by kernel_rfl) (by kernel_rfl) (by kernel_rfl) ?_ (Or.inl ⟨?_, ?_⟩) hHeld ?_
      rotate_left 2
      · simp only [List.getElem?_toArray, List.getElem?_cons_succ, List.getElem?_cons_zero]; rfl
      · exact fun _ _ _ h => h
      · rfl
      · intro w hSw; (try dsimp only at hSw); go_simp; try (with_reducible rfl)
      try simp only [Act.put, List.setIfInBounds_toArray, List.set_cons_zero, List.set_cons_succ]
      refine wpAnyH_take (i := 2) (oi := ?_) (v := ?_) ?_ (by kernel_rfl) (by kernel_rfl) (by kernel_rfl) ?_ (Or.inl ⟨?_, ?_⟩) hHeld ?_
      rotate_left 2
      · simp only [List.getElem?_toArray, List.getElem?_cons_succ, List.getElem?_cons_zero]; rfl
      · exact fun _ _ _ h => h
      · rfl
      · intro w hSw; (try dsimp only at hSw); go_simp; try (with_reducible rfl)
      try simp only [Act.put, List.setIfInBounds_toArray, List.set_cons_zero, List.set_cons_succ]
      refine wpAnyH_take (i := 3) (oi := ?_) (v := ?_) ?_ (by kernel_rfl) (by kernel_rfl) (by kernel_rfl) ?_ (Or.inl ⟨?_, ?_⟩) hHeld ?_
      rotate_left 2
      · simp only [List.getElem?_toArray, List.getElem?_cons_succ, List.getElem?_cons_zero]; rfl
      · exact fun _ _ _ h => h
      · rfl
      · intro w hSw; (try dsimp only at hSw); go_simp; try (with_reducible rfl)
      try simp only [Act.put, List.setIfInBounds_toArray, List.set_cons_zero, List.set_cons_succ]
      refine wpAnyH_ready (rs := [4]) (by kernel_rfl) (by simp) ?_
      refine AllReadyH.cons (o := ?_) ?_ (fun K hK => ?_) ?_
      rotate_left
      · simp only [List.getElem?_toArray, List.getElem?_cons_succ, List.getElem?_cons_zero]; rfl
      · refine step_store_all rfl _ _ _ rfl rfl w.heap.size 29 (jbC jj p5) (jbC jz pz) (by rfl) (by rfl) jb_size (jb_one _ _) rfl (blk_drew HResK.out) ?_
        intro w6 hw6 hm6
        have HW6 := Lib.hid hw6
        have HM6 := Lib.hid hm6
        have HRow6 := Lib.hid (hm6.row (blk_drew HRow.out) (by have := HLt.out; simp; omega))
        clear hw6 hm6
        go_simp
        refine hK.out _ _ (⟨blk_cell HRow6.out 1, blk_cell HRow6.out 2, blk_cell HRow6.out 3, blk_cell HRow6.out 4, blk_cell HRow6.out 5, blk_cell HRow6.out 6, blk_cell HRow6.out 7, blk_cell HRow6.out 8⟩) ?_
        clear hK K hHeld
        intro hHeld
        try simp only [Act.put, List.setIfInBounds_toArray, List.set_cons_zero, List.set_cons_succ]
        refine wpAnyH_take (i := 5) (oi := ?_) (v := ?_) ?_ (by kernel_rfl) (by kernel_rfl) (by kernel_rfl) ?_ (Or.inl ⟨?_, ?_⟩) hHeld ?_
        rotate_left 2
        · simp only [List.getElem?_toArray, List.getElem?_cons_succ, List.getElem?_cons_zero]; rfl
        · exact fun _ _ _ h => h
        · rfl
        · intro w hSw; (try dsimp only at hSw); go_simp; try (with_reducible rfl)
        try simp only [Act.put, List.setIfInBounds_toArray, List.set_cons_zero, List.set_cons_succ]
        refine wpAnyH_take (i := 6) (oi := ?_) (v := ?_) ?_ (by kernel_rfl) (by kernel_rfl) (by kernel_rfl) ?_ (Or.inl ⟨?_, ?_⟩) hHeld ?_
        rotate_left 2
        · simp only [List.getElem?_toArray, List.getElem?_cons_succ, List.getElem?_cons_zero]; rfl
        · exact fun _ _ _ h => h
        · rfl
        · intro w hSw; (try dsimp only at hSw); go_simp; try (with_reducible rfl)
        try simp only [Act.put, List.setIfInBounds_toArray, List.set_cons_zero, List.set_cons_succ]
        refine wpAnyH_done (by kernel_rfl) ?_ _
        go_wp2_with fail
        exact bodyPost_ret (v := .tuple #[.agg (jbC jj p5), .int .i64 uu, .int .i64 0]) (res_cell_tmp2_row rfl _ _ w.heap.size 29 (jbC jj p5) (0, 0) _ rfl HW6.out Tryz.underlying29 rfl jb_size _ _ rfl rfl) rfl ⟨jj, p5, uu, 0, rfl, (HR5.out.quiet ((Mod.refl [] w5).drew)).jobMod HM6.out (by have := HLt.out; have := HRb.out; omega), ((HM0.out.toBelow (Nat.le_refl _) (by simp)).trans ((HR5.out.below.mono HM0.out.size).trans (((Mod.refl [] w5).drew).toBelow (Nat.le_trans HM0.out.size HR5.out.below.size) (by simp)) |>.trans (HM6.out.toBelow (Nat.le_trans HM0.out.size HR5.out.below.size) (by simp)))), .inr ⟨HYes.out, rfl, k, HAll.out, HNot.out, HJj.out.symm, HUu.out.symm⟩, HR5.out.far HM0.out.size⟩
      exact AllReadyH.nil
    · rw [hbk] at HT
      have hk := takeB_hit (HTT.out.symm.trans hbk)
      have hfl := HFl.out _ hk.1
      have HU : Hid (takeU l (stK l k).1 true = (((stK l (k + 1)).1 : Nat) : Int)) := Lib.hid (by
        show (((stK l k).1 : Nat) : Int) + (atF l (stK l k).1).len = (((stK l k).1 + (atF l (stK l k).1).len.toNat : Nat) : Int)
        omega)
      have HUk : Hid ((stK l (k + 1)).1 = (stK l k).1 + (atF l (stK l k).1).len.toNat) := Lib.hid rfl
      rw [HU.out] at HT
      have HAll2 : Hid (∀ i, i < k + 1 → stT l i = true) := Lib.hid (fun i hi => by
        by_cases e : i = k
        · rw [e]; exact hbk
        · exact HAll.out i (by omega))
      have HFll := Lib.hid hfl
      clear hbk hk hfl
      go_wp2_with fail
      refine HT.out.mono ?_
      rintro e w5 ⟨rfl, p5, h5⟩
      have HR5 := Lib.hid h5
      clear h5
      go_wp2_with fail
      go_roundg (l.length - (stK l (k + 1)).1)
      case rel => exact ⟨k + 1, p5, by have := HFll.out; have := HUk.out; omega, HAll2.out, HR5.out⟩
      case measure => have := HFll.out; have := HUk.out; have := HGk.out; omega
end Go.Proofs.YtbhdlclaooohfaaGreatDoor

