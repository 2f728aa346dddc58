/- The disk: one more file. -/
import Derived.Test.YtfcoaafmjllpfaaVfF
import Derived.Test.YtfcoaafmjllpfaaVfI
namespace Go.Proofs.Ytfcoaafmjllpfaa
open Go.Shelf Go.ChangeShapes Go.WideShapes Go.ChangeAt Go.RowKit
set_option linter.unusedVariables false
set_option linter.unusedSimpArgs false

/-- a pointer to a file -/
def fptr (b : Nat) : Value := .pointer (some ⟨b, 0, none⟩)
/-- a row of pointers to files -/
def Known (w : World) (kn : Value) (ps : List Nat) : Prop := w.ownsRow 0 57 1 kn (ps.map fptr).length (ps.map fptr)
theorem finfo : (Try.prog.info? 57).map (fun i => (i.zero, i.size, i.bytes)) = some (some (.pointer none), 1, 8) := by kernel_rfl
/-- append of one value; where the row lies behind it -/
theorem wpList_app1b {P : Program} (w : World) {ops : Array Oper} {rest : List Oper} {o : Oper} {a : Act} {Q : Exit → Act → World → Prop} (hgd : o.guard = none) (s x : Operand) (t tx : TypeId)
    (ho : o.op = .call { callee := .builtin .append, args := #[s, x], argTypes := #[t, tx] })
    (e : TypeId) (z : Value) (bytes : Nat) (ht : P.underlying t = some (.slice e)) (htx : P.underlying tx = some (.slice e)) (hi : (P.info? e).map (fun i => (i.zero, i.size, i.bytes)) = some (some z, 1, bytes)) (hzs : z.cells.size = 1) (hby : bytes ≤ 100)
    (B : Nat) (w0 : World) (v : Value) (xs : List Value) (hs : a.eval s = v) (hown : w0.ownsRow B e 1 v xs.length xs) (y : Value) (hy : y.oneCell' = true) (hw : w = w0.alloc (.cells #[y] e)) (hB : B ≤ w0.heap.size)
    (g : Nat) (hg : w0.heap.size = g) (hx : a.eval x = .slice (some ⟨g, 0, none⟩) 1 1) (hlen : xs.length ≤ 1000000000)
    (h : ∀ v' w', w'.ownsRow B e 1 v' (xs ++ [y]).length (xs ++ [y]) → Mod v.ownBlock.toList w0 w' → (v'.ownBlock = v.ownBlock ∨ ∃ q, v'.ownBlock = some q ∧ w0.heap.size ≤ q) → wpList P ops Q rest (a.put o.dst v') w') : wpList P ops Q (o :: rest) a w := by
  subst hw
  subst hg
  obtain ⟨i, hi1, hi2, hi3, hi4⟩ := info_parts hi
  have hm0 : Mod [] w0 (w0.alloc (.cells #[y] e)) := (Mod.refl [] w0).alloc _
  have hn : (xs.length + 1) * bytes ≤ 140737488355328 := by
    have : (xs.length + 1) * bytes ≤ 1000000001 * 100 := Nat.mul_le_mul (by omega) hby
    omega
  refine wpList_append_src _ hgd s x t tx ho B e i _ 1 bytes ht hi1 hi2 hi3 hi4 hzs v _ _ hs (hm0.owns hown (by simp)) _ _ _ hx (src_one P w0 y hy e htx) (by simp only [maxLen]; omega) (by omega) (by simp; omega) ?_
  intro v' w' k1 k2 k3
  refine h v' w' (by simpa using k1) ((hm0.mono (by simp)).trans (Mod.ofGrown k2)) (k3.imp id (fun hq => ⟨_, hq, by simp⟩))
structure NewP (w : World) (g : Nat) (d : DiskN) (nm su tu kn : Value) (ps : List Nat) (l : List Int) (fb : Nat) (w' : World) : Prop where
  row : ∃ kn', w'.heap[g]? = some (.cells (diskR { d with made := d.made + 1 } nm su tu kn') 55 (0, 0)) ∧ Known w' kn' (ps ++ [fb]) ∧ (kn'.ownBlock = kn.ownBlock ∨ ∃ q, kn'.ownBlock = some q ∧ w.heap.size ≤ q)
  file : ∃ vs vu, FileAt w' fb ⟨d.made, l, l, []⟩ vs vu (.slice none 0 0) [] ∧ ∀ x ∈ fAll fb vs vu (.slice none 0 0) [], w.heap.size ≤ x
  mod : Mod (g :: kn.ownBlock.toList) w w'
set_option maxHeartbeats 2000000 in
theorem newFile_any (w : World) (g : Nat) (d : DiskN) (nm su tu kn : Value) (ps : List Nat) (h : w.heap[g]? = some (.cells (diskR d nm su tu kn) 55 (0, 0))) (hk : Known w kn ps) (h0 : 0 ≤ d.made) (h1 : d.made ≤ 1000000000000) (hps : ps.length ≤ 1000000000)
    (a : Option Addr) (n c : Nat) (l : List Int) (hl : Cells8 w a l) (hn : n = l.length) (hll : l.length ≤ 1000000000) :
    Calls Try.prog 22 #[.pointer (some ⟨g, 0, none⟩), .slice a n c] w fun e w' => ∃ fb, e = .returned (fptr fb) ∧ NewP w g d nm su tu kn ps l fb w' := by
  have H := Lib.hid h
  have HK := Lib.hid hk
  have HC := Lib.hid (fileOf_any w d.made a n c l hl hn hll)
  have k5 : w.cell? ⟨g, 5, none⟩ = some (.int .i64 d.made) := blk_cell h 5
  have hw : IntKind.i64.wrap (d.made + 1) = d.made + 1 := by rw [IntKind.wrap_i64]; omega
  clear h hk hl hn hll
  go_enter Try.func22, Try.ntmps22
  go_wp2_with fail
  refine HC.out.mono ?_
  rintro e w1 ⟨fb, vs, vu, rfl, hf, hm, hfr⟩
  have hr1 := hm.row H.out (by simp)
  have k5' : w1.cell? ⟨g, 5, none⟩ = some (.int .i64 d.made) := blk_cell hr1 5
  have z5 := blk_free hr1 5
  have hr2 : (w1.setCell ⟨g, 5, none⟩ (.int .i64 (d.made + 1))).heap[g]? = some (.cells (diskR { d with made := d.made + 1 } nm su tu kn) 55 (0, 0)) := blk_set hr1 5 _
  have k4 : (w1.setCell ⟨g, 5, none⟩ (.int .i64 (d.made + 1))).cell? ⟨g, 4, none⟩ = some kn := blk_cell hr2 4
  have HF := Lib.hid hf
  have HM := Lib.hid hm
  have HFr := Lib.hid hfr
  have HR2 := Lib.hid hr2
  have HM2 := Lib.hid (mod_set w1 g 5 (.int .i64 (d.made + 1)))
  clear hf hm hfr hr1 hr2 k5 HC
  obtain ⟨ak, ck, rfl, -, -⟩ := owns_shape HK.out
  have hgk : g ∉ (Value.slice ak (ps.map fptr).length ck).ownBlock.toList := fun hg => IsT.ne (owns_isT HK.out (by simpa using hg)) (by decide) (⟨_, H.out⟩ : IsT 55 w g)
  have hk1 : Known w1 (.slice ak (ps.map fptr).length ck) ps := HM.out.owns HK.out (by simp)
  have hk2 : Known (w1.setCell ⟨g, 5, none⟩ (.int .i64 (d.made + 1))) (.slice ak (ps.map fptr).length ck) ps := HM2.out.owns hk1 (fun x hx => by simp only [List.mem_singleton]; rintro rfl; exact hgk (by rw [hx]; simp))
  have HK2 := Lib.hid hk2
  have HGK := Lib.hid hgk
  have hlen : (ps.map fptr).length ≤ 1000000000 := by simpa using hps
  unfold Known at HK2 HK
  clear hgk hk1 hk2
  generalize hQ : ps.map fptr = Q at *
  go_wp2_with (at_builtin; refine wpList_app1b _ rfl _ _ 53 53 rfl 57 _ 8 Try.underlying53 Try.underlying53 finfo rfl (by decide) 0 (w1.setCell ⟨g, 5, none⟩ (.int .i64 (d.made + 1))) _ Q rfl HK2.out (fptr fb) rfl rfl (Nat.zero_le _) w1.heap.size (by simp) rfl hlen ?_)
  intro v3 w3 ho3 hm3 hb3
  have hr3 := hm3.row HR2.out HGK.out
  have k4' : w3.cell? ⟨g, 4, none⟩ = some (.slice ak Q.length ck) := blk_cell hr3 4
  have z4 := blk_free hr3 4
  obtain ⟨a3, c3, rfl, -, -⟩ := owns_shape ho3
  have HO3 := Lib.hid ho3
  have HM3 := Lib.hid hm3
  have HR3 := Lib.hid hr3
  have HB3 := Lib.hid hb3
  clear ho3 hm3 hr3 hb3
  go_wp2_with fail
  go_ret
  have hlq : (Q ++ [fptr fb]).length = Q.length + 1 := List.length_append
  have hms := mod_set w3 g 4 (.slice a3 (Q.length + 1) c3)
  have hgl := blk_lt H.out
  have hkl : ∀ x ∈ (Value.slice ak Q.length ck).ownBlock.toList, x < w.heap.size := fun x hx => (owns_lt HK.out (Option.mem_toList.1 hx)).2
  have hng : ∀ x ∈ fAll fb vs vu (.slice none 0 0) [], x ∉ [g] := fun x hx => by
    have := HFr.out x hx
    simp only [List.mem_singleton]
    omega
  have hnk : ∀ x ∈ fAll fb vs vu (.slice none 0 0) [], x ∉ (Value.slice ak Q.length ck).ownBlock.toList := fun x hx hx2 => by
    have h1 := HFr.out x hx
    have h2 := hkl x hx2
    omega
  refine ⟨fb, rfl, ⟨⟨.slice a3 (Q.length + 1) c3, blk_set HR3.out 4 _, ?_, ?_⟩, ⟨vs, vu, ((HF.out.mod HM2.out hng).mod HM3.out hnk).mod hms hng, HFr.out⟩, ?_⟩⟩
  · unfold Known
    rw [List.map_append, hQ, show (List.map fptr [fb]) = [fptr fb] from rfl, hlq]
    exact hms.owns HO3.out (fun x hx => by
      simp only [List.mem_singleton]
      rintro rfl
      exact IsT.ne (owns_isT HO3.out hx) (by decide) (⟨_, HR3.out⟩ : IsT 55 w3 x))
  · have hsz : w.heap.size ≤ w1.heap.size := HM.out.size
    exact HB3.out.imp (fun h => by rw [hQ]; exact h) (fun ⟨q, h1, h2⟩ => ⟨q, h1, Nat.le_trans hsz h2⟩)
  · refine ((((HM.out.mono (by simp)).trans (HM2.out.mono ?_)).trans (HM3.out.mono ?_)).trans (hms.mono ?_))
    · intro x hx; left; rw [List.mem_singleton.1 hx]; exact List.mem_cons_self
    · intro x hx; left; rw [hQ]; exact List.mem_cons_of_mem _ hx
    · intro x hx; left; rw [List.mem_singleton.1 hx]; exact List.mem_cons_self
end Go.Proofs.Ytfcoaafmjllpfaa
