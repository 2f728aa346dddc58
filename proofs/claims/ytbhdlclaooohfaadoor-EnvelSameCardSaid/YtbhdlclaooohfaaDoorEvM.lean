import Derived.Test.YtbhdlclaooohfaaDoorEvL
import Derived.Test.YtbhdlclaooohfaaDoorReg3
/- Envel: the reader's told: what its steps leave. -/
namespace Go.Proofs.YtbhdlclaooohfaaDoor
open Go.Maps Go.Shelf Go.Proofs.YtbhdlclaooohfaaDoor.Ad Go.ChangeShapes Go.WideShapes Go.ChangeAt Go.RowKit
set_option linter.unusedVariables false
set_option linter.unusedSimpArgs false

-- a mailbox, a target, targets
def mbF (c : Cr) : ByteArray := strOfNums (cT c)
def mbD (c : Cr) : ByteArray := strOfNums (cT (cTs c))
def mbN (c : Cr) : Cr := cTs (cTs c)
def tcX (c : Cr) : Tg := ⟨wr64 (cU c 2), mbF (cUs c 2), mbD (cUs c 2)⟩
def tcN (c : Cr) : Cr := mbN (cUs c 2)
def tcsX : Nat → Cr → List Tg
  | 0, _ => []
  | n + 1, c => tcX c :: tcsX n (tcN c)
def tcsN : Nat → Cr → Cr
  | 0, c => c
  | n + 1, c => tcsN n (tcN c)
theorem tcs_snoc : ∀ (n : Nat) (c : Cr), tcsX (n + 1) c = tcsX n c ++ [tcX (tcsN n c)] ∧ tcsN (n + 1) c = tcN (tcsN n c) := by
  intro n
  induction n with
  | zero => intro c; exact ⟨rfl, rfl⟩
  | succ n ih =>
    intro c
    obtain ⟨h1, h2⟩ := ih (tcN c)
    refine ⟨?_, h2⟩
    show tcX c :: tcsX (n + 1) (tcN c) = (tcX c :: tcsX n (tcN c)) ++ [tcX (tcsN n (tcN c))]
    rw [h1]; rfl
theorem tcsX_length : ∀ (n : Nat) (c : Cr), (tcsX n c).length = n := by
  intro n
  induction n with
  | zero => intro c; rfl
  | succ n ih => intro c; simp [tcsX, ih]
theorem mbN_len (c : Cr) : (mbN c).l.length ≤ c.l.length := Nat.le_trans (cTs_len _) (cTs_len _)
theorem tcN_len (c : Cr) : (tcN c).l.length ≤ c.l.length := Nat.le_trans (mbN_len _) (cUs_len _ _)
theorem tcsN_len : ∀ (n : Nat) (c : Cr), (tcsN n c).l.length ≤ c.l.length
  | 0, c => Nat.le_refl _
  | n + 1, c => Nat.le_trans (tcsN_len n (tcN c)) (tcN_len c)
def tc1 (c : Cr) : Cr := cUs c 8
def tc2 (c : Cr) : Cr := cUs (tc1 c) 8
def tc3 (c : Cr) : Cr := mbN (tc2 c)
def tc4 (c : Cr) : Cr := cUs (tc3 c) 1
def tcC (c : Cr) : Nat := (cU (tc3 c) 1).toNat
def tcE (c : Cr) : Cr := tcsN (tcC c) (tc4 c)
/-- the job that told reads (its body apart) -/
def toldJ (c : Cr) : Jb := ⟨wr64 (cU c 8), wr64 (cU (tc1 c) 8), mbF (tc2 c), mbD (tc2 c), tcsX (tcC c) (tc4 c), List.replicate (tcC c) (freshS (wr64 (cU (tc1 c) 8))), []⟩
def toldOk (c : Cr) : Bool := cB (tcE c)

section
variable {P : Program}
theorem step_appC (w : World) {ops : Array Oper} {o : Oper} {a : Go.Act} {K : Go.Act → World → Prop} {Q : Exit → Go.Act → World → Prop} {E : Prop} (hgd : o.guard = none) (s x : Operand) (t : TypeId)
    (ho : o.op = .call { callee := .builtin .append, args := #[s, x], argTypes := #[t, t] }) (e : TypeId) (z : Value) (k bytes : Nat) (ht : P.underlying t = some (.slice e)) (hi : (P.info? e).map (fun i => (i.zero, i.size, i.bytes)) = some (some z, k, bytes)) (hzs : z.cells.size = k) (hby : bytes ≤ 100)
    (B : Nat) (v : Value) (n : Nat) (xs : List Value) (hs : a.eval s = v) (hown : w.ownsRow B e k v n xs) (xv : Value) (m : Nat) (ys : List Value) (hx : a.eval x = xv) (hsrc : Src P k t xv m ys w) (hl : n + m ≤ 1000000000) (hB : B ≤ w.heap.size)
    (h : ∀ v' w', w'.ownsRow B e k v' (n + m) (xs ++ ys) → Mod v.ownBlock.toList w w' → (v'.ownBlock = v.ownBlock ∨ v'.ownBlock = some w.heap.size) → K (a.put o.dst v') w') : if Region.wanted o (yielded ops a.tmps) = true then Oper.wp P o a w K Q else E := by
  have hw : Region.wanted o (yielded ops a.tmps) = true := by simp [Region.wanted, hgd]
  rw [if_pos hw]
  obtain ⟨i, h1, h2, h3, h4⟩ := info_parts hi
  obtain ⟨v', w', hr, k1, k2, k3⟩ := run_append_src (P := P) w B t t o.type e i z k bytes ht h1 h2 h3 h4 hzs v n xs hown xv m ys hsrc (by simp only [maxLen]; omega) (by have : (n + m) * bytes ≤ 1000000000 * 100 := Nat.mul_le_mul hl hby; omega) hB
  unfold Oper.wp execOp
  simp only [ho, resolve, invoke, builtin, Sem.run_bind, Sem.run_pure, Result.andThen_ok, List.map_toArray, List.map_cons, List.map_nil, hs, hx, hr]
  exact h v' w' k1 (Mod.ofGrown k2) k3
/-- one new element as what is appended -/
theorem src_cs (w : World) (cs : Array Value) (e : TypeId) (k : Nat) (hk : cs.size = k) (h1 : ∀ u ∈ cs.toList, u.oneCell' = true) {tx e' : TypeId} (ht : P.underlying tx = some (.slice e')) : Src P k tx (.slice (some ⟨w.heap.size, 0, none⟩) 1 1) 1 cs.toList (w.alloc (.cells cs e)) := by
  refine Src.ofSlice _ ht _ 1 1 cs.toList (by simp [hk]) ?_ h1
  intro j u hu
  rw [Addr.add_lit, Nat.zero_add, blk_cell (heap_alloc_new w _) j]
  simpa using hu
end
theorem infoTg : (Tryd.prog.info? 43).map (fun i => (i.zero, i.size, i.bytes)) = some (some (.agg #[.int .i64 0, .string ⟨#[]⟩, .string ⟨#[]⟩]), 3, 40) := by kernel_rfl
theorem infoSt : (Tryd.prog.info? 37).map (fun i => (i.zero, i.size, i.bytes)) = some (some (.agg #[.int .i64 0, .int .i64 0, .int .i64 0, .int .i64 0]), 4, 32) := by kernel_rfl
section
variable {B : Nat} {w0 w w' : World} {rb : Nat} {f : FA} {used : Int} {j : Jb} {p : JA} {s g : Nat} {c : Cr}
theorem RdW.notT (h : RdW B w0 w rb f used j p) {t : TypeId} (hne : 55 ≠ t) : ¬ IsT t w rb := ne_type h.row hne
/-- a cell of the reader is stored anew -/
theorem RdW.put (h : RdW B w0 w rb f used j p) (i : Nat) (v : Value) (used' : Int) (j' : Jb) (h1 : j'.to = j.to) (h2 : j'.sts = j.sts) (h3 : j'.body = j.body) (hr : (rdrC f used j p).setIfInBounds i v = rdrC f used' j' p) : RdW B w0 (w.setCell ⟨rb, i, none⟩ v) rb f used' j' p := by
  have hm : Mod [rb] w (w.setCell ⟨rb, i, none⟩ v) := (Mod.refl [rb] w).setCell (Or.inl (by simp)) _
  refine ⟨?_, ?_, ?_, ?_, by rw [h3]; exact h.bn, h.below.trans (hm.toBelow h.size (by simpa using h.rB)), Nat.le_trans h.size hm.size, h.rB, h.keepMod hm (fun y hy ht => by simp at hy; subst hy; exact h.notT (by decide) ht)⟩
  · have := blk_set h.row i v
    rw [hr] at this
    exact this
  · rw [h1]
    refine hm.owns h.to ?_
    intro k hk hx
    simp at hx; subst hx
    exact h.notT (by decide) (owns_isT h.to hk)
  · rw [h2]
    refine hm.owns h.sts ?_
    intro k hk hx
    simp at hx; subst hx
    exact h.notT (by decide) (owns_isT h.sts hk)
  · rw [h3]
    refine h.body.mod hm ?_
    intro x _ hx hc
    simp at hx; subst hx
    exact h.notT (by decide) hc
/-- targets grow by one -/
theorem RdW.grewTo (h : RdW B w0 w rb f used j p) (t : Tg) {a' : Option Addr} {c' : Nat} (k1 : w'.ownsRow B 43 3 (.slice a' (j.to.length + 1) c') (j.to.length + 1) (rowC tgC j.to ++ (tgC t).toList)) (k2 : Mod (Value.slice p.ta j.to.length p.tc).ownBlock.toList w w') :
    RdW B w0 (w'.setCell ⟨rb, 6, none⟩ (.slice a' (j.to.length + 1) c')) rb f used { j with to := j.to ++ [t] } { p with ta := a', tc := c' } := by
  have hT : ∀ x ∈ (Value.slice p.ta j.to.length p.tc).ownBlock.toList, B ≤ x ∧ x ≠ rb ∧ ¬ IsT 37 w x ∧ ¬ IsT 5 w x ∧ ¬ IsT 75 w x := by
    intro x hx
    have hx' : (Value.slice p.ta j.to.length p.tc).ownBlock = some x := by simpa using hx
    obtain ⟨cur, hcur⟩ := owns_isT h.to hx'
    refine ⟨(h.to.lt x hx').1, ?_, ne_type hcur (by decide), ne_type hcur (by decide), ne_type hcur (by decide)⟩
    intro e; subst e
    exact h.notT (show 55 ≠ 43 by decide) ⟨_, hcur⟩
  have hrow := k2.row h.row (fun hx => (hT rb hx).2.1 rfl)
  have hm : Mod [rb] w' (w'.setCell ⟨rb, 6, none⟩ (.slice a' (j.to.length + 1) c')) := (Mod.refl [rb] w').setCell (Or.inl (by simp)) _
  have hl : (j.to ++ [t]).length = j.to.length + 1 := by simp
  have hnt : ∀ {t : TypeId}, 55 ≠ t → ¬ IsT t w' rb := fun hne => ne_type hrow hne
  have hst := k2.owns h.sts (fun k hk hx => (hT k hx).2.2.1 (owns_isT h.sts hk))
  have hbd := h.body.mod k2 (fun x _ hx hc => (hT x hx).2.2.2.1 hc)
  have hbl := h.below.trans (k2.toBelow h.size (fun x hx => (hT x hx).1))
  have hsz := Nat.le_trans h.size k2.size
  refine ⟨?_, ?_, hm.owns hst ?_, hbd.mod hm ?_, h.bn, hbl.trans (hm.toBelow hsz (by simpa using h.rB)), Nat.le_trans hsz hm.size, h.rB, fun x hx => hm.row (h.keepMod k2 (fun y hy => (hT y hy).2.2.2.2) x hx) (fun hc => by simp at hc; rw [← hc] at hrow; exact hnt (show 55 ≠ 75 by decide) ⟨x.2, by rw [← hc]; exact h.keepMod k2 (fun y hy => (hT y hy).2.2.2.2) x hx⟩)⟩
  · have := blk_set hrow 6 (.slice a' (j.to.length + 1) c')
    simpa [rdrC, hl] using this
  · rw [hl, rowC_append]
    refine hm.owns (by simpa [rowC] using k1) ?_
    intro k hk hx
    simp at hx; subst hx
    exact hnt (show 55 ≠ 43 by decide) (owns_isT k1 hk)
  · intro k hk hx
    simp at hx; subst hx
    exact hnt (show 55 ≠ 37 by decide) (owns_isT hst hk)
  · intro x _ hx hc
    simp at hx; subst hx
    exact hnt (show 55 ≠ 5 by decide) hc
/-- states grow by one -/
theorem RdW.grewSt (h : RdW B w0 w rb f used j p) (t : JSt) {a' : Option Addr} {c' : Nat} (k1 : w'.ownsRow B 37 4 (.slice a' (j.sts.length + 1) c') (j.sts.length + 1) (rowC stC j.sts ++ (stC t).toList)) (k2 : Mod (Value.slice p.sa j.sts.length p.sc).ownBlock.toList w w') :
    RdW B w0 (w'.setCell ⟨rb, 7, none⟩ (.slice a' (j.sts.length + 1) c')) rb f used { j with sts := j.sts ++ [t] } { p with sa := a', sc := c' } := by
  have hT : ∀ x ∈ (Value.slice p.sa j.sts.length p.sc).ownBlock.toList, B ≤ x ∧ x ≠ rb ∧ ¬ IsT 43 w x ∧ ¬ IsT 5 w x ∧ ¬ IsT 75 w x := by
    intro x hx
    have hx' : (Value.slice p.sa j.sts.length p.sc).ownBlock = some x := by simpa using hx
    obtain ⟨cur, hcur⟩ := owns_isT h.sts hx'
    refine ⟨(h.sts.lt x hx').1, ?_, ne_type hcur (by decide), ne_type hcur (by decide), ne_type hcur (by decide)⟩
    intro e; subst e
    exact h.notT (show 55 ≠ 37 by decide) ⟨_, hcur⟩
  have hrow := k2.row h.row (fun hx => (hT rb hx).2.1 rfl)
  have hm : Mod [rb] w' (w'.setCell ⟨rb, 7, none⟩ (.slice a' (j.sts.length + 1) c')) := (Mod.refl [rb] w').setCell (Or.inl (by simp)) _
  have hl : (j.sts ++ [t]).length = j.sts.length + 1 := by simp
  have hnt : ∀ {t : TypeId}, 55 ≠ t → ¬ IsT t w' rb := fun hne => ne_type hrow hne
  have hst := k2.owns h.to (fun k hk hx => (hT k hx).2.2.1 (owns_isT h.to hk))
  have hbd := h.body.mod k2 (fun x _ hx hc => (hT x hx).2.2.2.1 hc)
  have hbl := h.below.trans (k2.toBelow h.size (fun x hx => (hT x hx).1))
  have hsz := Nat.le_trans h.size k2.size
  refine ⟨?_, hm.owns hst ?_, ?_, hbd.mod hm ?_, h.bn, hbl.trans (hm.toBelow hsz (by simpa using h.rB)), Nat.le_trans hsz hm.size, h.rB, fun x hx => hm.row (h.keepMod k2 (fun y hy => (hT y hy).2.2.2.2) x hx) (fun hc => by simp at hc; rw [← hc] at hrow; exact hnt (show 55 ≠ 75 by decide) ⟨x.2, by rw [← hc]; exact h.keepMod k2 (fun y hy => (hT y hy).2.2.2.2) x hx⟩)⟩
  · have := blk_set hrow 7 (.slice a' (j.sts.length + 1) c')
    simpa [rdrC, hl] using this
  · intro k hk hx
    simp at hx; subst hx
    exact hnt (show 55 ≠ 43 by decide) (owns_isT hst hk)
  · rw [hl, rowC_append]
    refine hm.owns (by simpa [rowC] using k1) ?_
    intro k hk hx
    simp at hx; subst hx
    exact hnt (show 55 ≠ 37 by decide) (owns_isT k1 hk)
  · intro x _ hx hc
    simp at hx; subst hx
    exact hnt (show 55 ≠ 5 by decide) hc
end
end Go.Proofs.YtbhdlclaooohfaaDoor

