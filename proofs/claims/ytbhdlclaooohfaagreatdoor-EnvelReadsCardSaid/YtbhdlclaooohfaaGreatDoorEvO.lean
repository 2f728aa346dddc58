import Derived.Test.YtbhdlclaooohfaaGreatDoorEvN
/- Envel: the reader's take, for whatever is read. Written by tools/mkevtake.py. -/
namespace Go.Proofs.YtbhdlclaooohfaaGreatDoor
open Go.Maps Go.Shelf Go.Proofs.YtbhdlclaooohfaaGreatDoor.Ad Go.ChangeShapes Go.WideShapes Go.ChangeAt Go.RowKit
set_option linter.unusedVariables false
set_option linter.unusedSimpArgs false

section
variable {P : Program} {w : World} {ops : Array Oper} {o : Oper} {a : Act} {K : Act → World → Prop} {Q : Exit → Act → World → Prop} {E : Prop}
theorem step_store_all (hgd : o.guard = none) (ty : TypeId) (x y : Operand) (ho : o.op = .store ty x y) (hd : o.dst = none) (g : Nat) (t : TypeId) (cs old : Array Value) (hx : a.eval x = .pointer (some ⟨g, 0, none⟩)) (hy : a.eval y = .agg cs)
    (hs : (P.info? ty).map (·.size) = some cs.size) (h1 : cs.all (·.oneCell') = true) (ho2 : old.size = cs.size) (hw : w.heap[g]? = some (.cells old t (0, 0))) (h : ∀ w', w'.heap[g]? = some (.cells cs t (0, 0)) → Mod [g] w w' → K a w') : if Region.wanted o (yielded ops a.tmps) = true then Oper.wp P o a w K Q else E := by
  have hwt : Region.wanted o (yielded ops a.tmps) = true := by simp [Region.wanted, hgd]
  rw [if_pos hwt]
  have h' := h _ (setRow_heap w g _ _ _ _ hw) ⟨rfl, rfl, rfl, by simp, fun k hk hg => setRow_other w g k _ (by simpa using hg)⟩
  exact wp_store_row ty x y ho g cs hx hy t old hw hs ho2 h1 (by rw [hd]; exact h')
end
theorem fr_one (F : FV) (pa : Option Addr) (pc : Nat) : (frCs F pa pc).all (·.oneCell') = true := by simp [frCs, Value.oneCell']
/-- the frame that stands at u is of that kind -/
def hitB (l : List Int) (u : Nat) (kind : Int) : Bool := decide (atE l u = 0) && decide ((atF l u).kind = kind)
def takeB (l : List Int) (u : Nat) (kind : Int) (ok : Bool) : Bool := hitB l u kind && ok
def takeU (l : List Int) (u : Nat) (b : Bool) : Int := if b then (u : Int) + (atF l u).len else u
def takeJ (hit ok : Bool) (j jy jn : Jb) : Jb := if hit then (if ok then jy else jn) else j
def TakeP (w0 : World) (rb : Nat) (f : FA) (b : Bool) (u : Int) (j : Jb) (e : Ending) (w' : World) : Prop := e = .returned (.bool b) ∧ ∃ p, RdW w0.heap.size w0 w' rb f u j p
theorem RdW.withKs {B : Nat} {w0 w : World} {rb : Nat} {a : Option Addr} {n c : Nat} {ks : List (Nat × Array Value)} {used : Int} {j : Jb} {p : JA} (h : RdW B w0 w rb ⟨a, n, c, ks⟩ used j p) (ks' : List (Nat × Array Value)) (hk : ∀ x ∈ ks', w.heap[x.1]? = some (.cells x.2 55 (0, 0))) : RdW B w0 w rb ⟨a, n, c, ks'⟩ used j p :=
  ⟨h.row, h.to, h.sts, h.body, h.bn, h.below, h.size, h.rB, hk⟩
theorem RdW.modF {B : Nat} {w0 w w' : World} {rb : Nat} {a : Option Addr} {n c : Nat} {used : Int} {j : Jb} {p : JA} {F : List Nat} (h : RdW B w0 w rb ⟨a, n, c, []⟩ used j p) (hm : Mod F w w') (hF : ∀ x ∈ F, B ≤ x ∧ x ≠ rb ∧ ¬ IsT 39 w x ∧ ¬ IsT 41 w x ∧ ¬ IsT 5 w x) : RdW B w0 w' rb ⟨a, n, c, []⟩ used j p := by
  refine ⟨hm.row h.row (fun hx => (hF _ hx).2.1 rfl), hm.owns h.to ?_, hm.owns h.sts ?_, h.body.mod hm ?_, h.bn, h.below.trans (hm.toBelow h.size (fun x hx => (hF x hx).1)), Nat.le_trans h.size hm.size, h.rB, by simp⟩
  · intro k hk hx
    exact (hF k hx).2.2.1 (owns_isT h.to hk)
  · intro k hk hx
    exact (hF k hx).2.2.2.1 (owns_isT h.sts hk)
  · intro x _ hx hc
    exact (hF x hx).2.2.2.2 hc
/-- what a reading function does with the payload of the frame at u -/
def Reads (w0 : World) (rb : Nat) (a : Option Addr) (n c : Nat) (fn : Nat) (u : Nat) (pl : List Int) (j : Jb) (p : JA) (ok : Bool) (jy jn : Jb) : Prop :=
  ∀ (ks : List (Nat × Array Value)) (W : World) (pa : Option Addr) (pn pc : Nat), RdW w0.heap.size w0 W rb ⟨a, n, c, ks⟩ u j p → Pay w0.heap.size W pa pl → pn = pl.length → pl.length ≤ pc → Calls Tryz.prog fn #[.pointer (some ⟨rb, 0, none⟩), .slice pa pn pc] W fun e w' => e = .returned (.bool ok) ∧ ∃ p', RdW w0.heap.size w0 w' rb ⟨a, n, c, ks⟩ u (if ok then jy else jn) p'
set_option maxRecDepth 100000 in
set_option maxHeartbeats 8000000 in
theorem rtake_any {w0 w : World} {rb : Nat} {a : Option Addr} {n c : Nat} {u : Nat} {j : Jb} {p : JA} {l : List Int} (h : RdW w0.heap.size w0 w rb ⟨a, n, c, []⟩ u j p) (hf : Cells8 w0 a l) (hn : n = l.length) (hc : l.length ≤ c) (hl : l.length ≤ 100000000) (hu : u ≤ 1000000000) (ht : Halves w0)
    (kind : Int) (fn : Nat) (hent : Enters Tryz.prog fn) (ok : Bool) (jy jn : Jb) (hC : hitB l u kind = true → Reads w0 rb a n c fn u (atF l u).pay j p ok jy jn) (hlen : atE l u = 0 → 0 ≤ (atF l u).len ∧ (u : Int) + (atF l u).len ≤ 2000000000) :
    Calls Tryz.prog 13 #[.pointer (some ⟨rb, 0, none⟩), .int .i64 kind, .func (.func fn) #[.pointer (some ⟨rb, 0, none⟩)] #[]] w (TakeP w0 rb ⟨a, n, c, []⟩ (takeB l u kind ok) (takeU l u (takeB l u kind ok)) (takeJ (hitB l u kind) ok j jy jn)) := by
  have hent' : ∀ args w, (callFunc fn args).run Tryz.prog w = .ok (.enter fn args) w := hent
  have HAt := Lib.hid (fun W (hm : Below w0.heap.size w0 W) => at_any l a c n u W (hf.old hm) hn hc (by omega) (by omega) (by omega) (ht.old hm))
  have H := Lib.hid h
  have k0 := blk_cell h.row 0
  have k1 := blk_cell h.row 1
  have HCr := Lib.hid hC
  have HLen := Lib.hid hlen
  have HU := Lib.hid hu
  obtain ⟨F, hF⟩ : ∃ F, atF l u = F := ⟨_, rfl⟩
  obtain ⟨er, her⟩ : ∃ er, atE l u = er := ⟨_, rfl⟩
  have HB : Hid (hitB l u kind = (decide (er = 0) && decide (F.kind = kind))) := Lib.hid (by unfold hitB; rw [hF, her])
  have HU2 : Hid (∀ b, takeU l u b = if b then (u : Int) + F.len else u) := Lib.hid (fun b => by unfold takeU; rw [hF])
  have HFe := Lib.hid hF
  have HEe := Lib.hid her
  rw [hF, her] at HLen
  rw [hF] at HCr
  clear h hf hn hc hl hu ht hC hlen hent
  unfold TakeP
  go_enter Tryz.func13, Tryz.ntmps13
  go_wp2_with fail
  have HR0 := Lib.hid (H.out.quiet ((Mod.refl [] w).drew))
  refine wp_region_held_drew (S := (fun W => W.cell? ⟨rb, 0, none⟩ = some (.slice a n c) ∧ W.cell? ⟨rb, 1, none⟩ = some (.int .i64 u))) (by kernel_rfl) (⟨blk_cell HR0.out.row 0, blk_cell HR0.out.row 1⟩) (fun hHeld => ?_)
  refine wpAnyH_take (i := 0) (oi := ?_) (v := ?_) ?_ (by kernel_rfl) (by kernel_rfl) (by kernel_rfl) ?_ (Or.inl ⟨?_, ?_⟩) hHeld ?_
  rotate_left 2
  · simp only [List.getElem?_toArray, List.getElem?_cons_succ, List.getElem?_cons_zero]; rfl
  · exact fun _ _ _ h => h
  · rfl
  · intro w hSw; (try dsimp only at hSw); go_simp; try (with_reducible rfl)
  try simp only [Act.put, List.setIfInBounds_toArray, List.set_cons_zero, List.set_cons_succ]
  refine wpAnyH_take (i := 1) (oi := ?_) (v := ?_) ?_ (by kernel_rfl) (by kernel_rfl) (by kernel_rfl) ?_ (Or.inl ⟨?_, ?_⟩) hHeld ?_
  rotate_left 2
  · simp only [List.getElem?_toArray, List.getElem?_cons_succ, List.getElem?_cons_zero]; rfl
  · exact fun _ _ _ h => h
  · rfl
  · intro w hSw; (try dsimp only at hSw); go_simp; try (with_reducible rfl)
  try simp only [Act.put, List.setIfInBounds_toArray, List.set_cons_zero, List.set_cons_succ]
  refine wpAnyH_take (i := 2) (oi := ?_) (v := ?_) ?_ (by kernel_rfl) (by kernel_rfl) (by kernel_rfl) ?_ (Or.inl ⟨?_, ?_⟩) hHeld ?_
  rotate_left 2
  · simp only [List.getElem?_toArray, List.getElem?_cons_succ, List.getElem?_cons_zero]; rfl
  · exact fun _ _ _ h => h
  · rfl
  · intro w hSw; (try dsimp only at hSw); go_simp; try (with_reducible rfl)
  try simp only [Act.put, List.setIfInBounds_toArray, List.set_cons_zero, List.set_cons_succ]
  refine wpAnyH_take (i := 3) (oi := ?_) (v := ?_) ?_ (by kernel_rfl) (by kernel_rfl) (by kernel_rfl) ?_ (Or.inl ⟨?_, ?_⟩) hHeld ?_
  rotate_left 2
  · simp only [List.getElem?_toArray, List.getElem?_cons_succ, List.getElem?_cons_zero]; rfl
  · exact fun _ _ _ h => h
  · rfl
  · intro w hSw; (try dsimp only at hSw); go_simp; try (with_reducible rfl)
  try simp only [Act.put, List.setIfInBounds_toArray, List.set_cons_zero, List.set_cons_succ]
  refine wpAnyH_take (i := 4) (oi := ?_) (v := ?_) ?_ (by kernel_rfl) (by kernel_rfl) (by kernel_rfl) ?_ (Or.inl ⟨?_, ?_⟩) hHeld ?_
  rotate_left 2
  · simp only [List.getElem?_toArray, List.getElem?_cons_succ, List.getElem?_cons_zero]; rfl
  · exact fun _ _ _ h => h
  · rfl
  · intro w hSw; (try dsimp only at hSw); go_simp; try (with_reducible rfl)
  try simp only [Act.put, List.setIfInBounds_toArray, List.set_cons_zero, List.set_cons_succ]
  refine wpAnyH_take (i := 5) (oi := ?_) (v := ?_) ?_ (by kernel_rfl) (by kernel_rfl) (by kernel_rfl) ?_ (Or.inl ⟨?_, ?_⟩) hHeld ?_
  rotate_left 2
  · simp only [List.getElem?_toArray, List.getElem?_cons_succ, List.getElem?_cons_zero]; rfl
  · exact fun _ _ _ h => h
  · rfl
  · intro w hSw; (try dsimp only at hSw); go_simp; try (with_reducible rfl)
  try simp only [Act.put, List.setIfInBounds_toArray, List.set_cons_zero, List.set_cons_succ]
  refine wpAnyH_take (i := 6) (oi := ?_) (v := ?_) ?_ (by kernel_rfl) (by kernel_rfl) (by kernel_rfl) ?_ (Or.inl ⟨?_, ?_⟩) hHeld ?_
  rotate_left 2
  · simp only [List.getElem?_toArray, List.getElem?_cons_succ, List.getElem?_cons_zero]; rfl
  · exact fun _ _ _ h => h
  · rfl
  · intro w hSw; (try dsimp only at hSw); go_simp; try (with_reducible rfl)
  try simp only [Act.put, List.setIfInBounds_toArray, List.set_cons_zero, List.set_cons_succ]
  refine wpAnyH_take (i := 7) (oi := ?_) (v := ?_) ?_ (by kernel_rfl) (by kernel_rfl) (by kernel_rfl) ?_ (Or.inl ⟨?_, ?_⟩) hHeld ?_
  rotate_left 2
  · simp only [List.getElem?_toArray, List.getElem?_cons_succ, List.getElem?_cons_zero]; rfl
  · exact fun _ _ _ h => h
  · rfl
  · intro w hSw; (try dsimp only at hSw); go_simp; try (with_reducible rfl)
  try simp only [Act.put, List.setIfInBounds_toArray, List.set_cons_zero, List.set_cons_succ]
  refine wpAnyH_ready (rs := [8, 12]) (by kernel_rfl) (by simp) ?_
  refine AllReadyH.cons (o := ?_) ?_ (fun K hK => ?_) ?_
  rotate_left
  · simp only [List.getElem?_toArray, List.getElem?_cons_succ, List.getElem?_cons_zero]; rfl
  · go_simp
    go_at_call 34
    refine (HAt.out _ HR0.out.below).mono ?_
    intro e w1 hat
    obtain ⟨pa, pc, rfl, hpay, hbl, hpc⟩ := hat.open
    rw [HFe.out] at hpay hpc
    rw [HFe.out, HEe.out]
    have HPay := Lib.hid (hpay.low (B' := w0.heap.size) HR0.out.size)
    have HPc := Lib.hid hpc
    have HR1 := Lib.hid (HR0.out.quiet (Mod.ofBelow hbl))
    have HBl := Lib.hid hbl
    clear hat hpay hbl hpc
    obtain ⟨pn, hpn⟩ : ∃ pn, F.pay.length = pn := ⟨_, rfl⟩
    rw [hpn]
    have HPn := Lib.hid hpn.symm
    clear hpn
    go_simp
    refine hK.out _ _ (⟨blk_cell HR1.out.row 0, blk_cell HR1.out.row 1⟩) ?_
    clear hK K hHeld
    intro hHeld
    try simp only [Act.put, List.setIfInBounds_toArray, List.set_cons_zero, List.set_cons_succ]
    refine wpAnyH_take (i := 9) (oi := ?_) (v := ?_) ?_ (by kernel_rfl) (by kernel_rfl) (by kernel_rfl) ?_ (Or.inl ⟨?_, ?_⟩) hHeld ?_
    rotate_left 2
    · simp only [List.getElem?_toArray, List.getElem?_cons_succ, List.getElem?_cons_zero]; rfl
    · exact fun _ _ _ h => h
    · rfl
    · intro w hSw; (try dsimp only at hSw); go_simp; try (with_reducible rfl)
    try simp only [Act.put, List.setIfInBounds_toArray, List.set_cons_zero, List.set_cons_succ]
    refine wpAnyH_take (i := 10) (oi := ?_) (v := ?_) ?_ (by kernel_rfl) (by kernel_rfl) (by kernel_rfl) ?_ (Or.inl ⟨?_, ?_⟩) hHeld ?_
    rotate_left 2
    · simp only [List.getElem?_toArray, List.getElem?_cons_succ, List.getElem?_cons_zero]; rfl
    · exact fun _ _ _ h => h
    · rfl
    · intro w hSw; (try dsimp only at hSw); go_simp; try (with_reducible rfl)
    try simp only [Act.put, List.setIfInBounds_toArray, List.set_cons_zero, List.set_cons_succ]
    refine wpAnyH_take (i := 11) (oi := ?_) (v := ?_) ?_ (by kernel_rfl) (by kernel_rfl) (by kernel_rfl) ?_ (Or.inl ⟨?_, ?_⟩) hHeld ?_
    rotate_left 2
    · simp only [List.getElem?_toArray, List.getElem?_cons_succ, List.getElem?_cons_zero]; rfl
    · exact fun _ _ _ h => h
    · rfl
    · intro w hSw; (try dsimp only at hSw); go_simp; try (with_reducible rfl)
    try simp only [Act.put, List.setIfInBounds_toArray, List.set_cons_zero, List.set_cons_succ]
    refine wpAnyH_ready (rs := [12]) (by kernel_rfl) (by simp) ?_
    refine AllReadyH.cons (o := ?_) ?_ (fun K hK => ?_) ?_
    rotate_left
    · simp only [List.getElem?_toArray, List.getElem?_cons_succ, List.getElem?_cons_zero]; rfl
    · go_simp
      obtain ⟨fb, hfb⟩ : ∃ fb, w1.heap.size = fb := ⟨_, rfl⟩
      have HFb : Hid ((w1.alloc (.cells zeroCs 55)).heap[fb]? = some (.cells zeroCs 55 (0, 0))) := Lib.hid (by rw [← hfb]; exact heap_alloc_new w1 _)
      have HR2 := Lib.hid (HR1.out.quiet ((Mod.refl [] w1).alloc (.cells zeroCs 55)))
      have HPay2 := Lib.hid (HPay.out.mod ((Mod.refl [] w1).alloc (.cells zeroCs 55)) (by simp))
      have HFbB : Hid (w0.heap.size ≤ fb) := Lib.hid (by rw [← hfb]; exact HR1.out.size)
      rw [hfb]
      clear hfb
      refine hK.out _ _ (⟨blk_cell HR2.out.row 0, blk_cell HR2.out.row 1⟩) ?_
      clear hK K hHeld
      intro hHeld
      try simp only [Act.put, List.setIfInBounds_toArray, List.set_cons_zero, List.set_cons_succ]
      refine wpAnyH_ready (rs := [13]) (by kernel_rfl) (by simp) ?_
      refine AllReadyH.cons (o := ?_) ?_ (fun K hK => ?_) ?_
      rotate_left
      · simp only [List.getElem?_toArray, List.getElem?_cons_succ, List.getElem?_cons_zero]; rfl
      · refine step_store_all rfl _ _ _ rfl rfl fb 55 #[.int .i64 F.at_, .int .i64 F.len, .int .i64 F.kind, .slice pa pn pc] zeroCs (by rfl) (by rfl) frame_size (by simp [Value.oneCell']) rfl HFb.out ?_
        intro w3 hr3 hm3
        have HFr := Lib.hid hr3
        have HR3 := Lib.hid (HR2.out.modF hm3 (by
          intro x hx
          simp at hx; subst hx
          exact ⟨HFbB.out, (fun e => by subst e; exact HR2.out.notT (show 48 ≠ 55 by decide) ⟨_, HFb.out⟩), ne_type HFb.out (by decide), ne_type HFb.out (by decide), ne_type HFb.out (by decide)⟩))
        have HPay3 := Lib.hid (HPay2.out.mod hm3 (by
          intro x _ hx hc
          simp at hx; subst hx
          exact ne_type HFb.out (show 55 ≠ 5 by decide) hc))
        clear hr3 hm3
        go_simp
        refine hK.out _ _ (⟨blk_cell HR3.out.row 0, blk_cell HR3.out.row 1⟩) ?_
        clear hK K hHeld
        intro hHeld
        try simp only [Act.put, List.setIfInBounds_toArray, List.set_cons_zero, List.set_cons_succ]
        refine wpAnyH_take (i := 14) (oi := ?_) (v := ?_) ?_ (by kernel_rfl) (by kernel_rfl) (by kernel_rfl) ?_ (Or.inl ⟨?_, ?_⟩) hHeld ?_
        rotate_left 2
        · simp only [List.getElem?_toArray, List.getElem?_cons_succ, List.getElem?_cons_zero]; rfl
        · exact fun _ _ _ h => h
        · rfl
        · intro w hSw; (try dsimp only at hSw); go_simp; try (with_reducible rfl)
        try simp only [Act.put, List.setIfInBounds_toArray, List.set_cons_zero, List.set_cons_succ]
        refine wpAnyH_done (by kernel_rfl) ?_ _
        have HK3 := Lib.hid (HR3.out.withKs [(fb, #[.int .i64 F.at_, .int .i64 F.len, .int .i64 F.kind, .slice pa pn pc])] (by intro x hx; simp at hx; subst hx; exact HFr.out))
        have q0 := blk_cell HFr.out 0
        have q1 := blk_cell HFr.out 1
        have q2 := blk_cell HFr.out 2
        have q3 := blk_cell HFr.out 3
        by_cases he : er = 0
        case neg =>
          have he1 : (er != 0) = true := by simpa using he
          have HNo := Lib.hid (show hitB l u kind = false by rw [HB.out]; simp [he])
          clear he
          go_wp2_with fail
          go_ret
          rw [show takeB l u kind ok = false by unfold takeB; rw [HNo.out]; rfl, HU2.out, HNo.out]
          exact ⟨rfl, p, HR3.out.withKs [] (by simp)⟩
        subst he
        by_cases hk : F.kind = kind
        case neg =>
          have hk1 : (F.kind != kind) = true := by simpa using hk
          have HNo := Lib.hid (show hitB l u kind = false by rw [HB.out]; simp [hk])
          clear hk
          go_wp2_with fail
          go_ret
          rw [show takeB l u kind ok = false by unfold takeB; rw [HNo.out]; rfl, HU2.out, HNo.out]
          exact ⟨rfl, p, HR3.out.withKs [] (by simp)⟩
        have hk1 : (F.kind != kind) = false := by simpa using hk
        have HYes := Lib.hid (show hitB l u kind = true by rw [HB.out]; simp [hk])
        have HRead := Lib.hid (HCr.out HYes.out _ w3 pa pn pc HK3.out HPay3.out HPn.out HPc.out)
        clear hk
        cases ok
        · go_wp2_with ((with_reducible refine HRead.out.mono ?_); rintro e w4 ⟨rfl, p4, h4⟩; have HR4 := Lib.hid h4; clear h4)
          go_ret
          rw [show takeB l u kind false = false by unfold takeB; simp, HU2.out, HYes.out]
          exact ⟨rfl, p4, HR4.out.withKs [] (by simp)⟩
        · go_wp2_with ((with_reducible refine HRead.out.mono ?_); rintro e w4 ⟨rfl, p4, h4⟩; have HR4 := Lib.hid h4; clear h4 q0 q1 q2 q3 k0 k1)
          have hfr4 := HR4.out.keep _ (List.mem_cons_self ..)
          have HFr4 := Lib.hid hfr4
          clear hfr4
          have hll := HLen.out (by trivial)
          have hadd : IntKind.i64.wrap ((u : Int) + F.len) = (u : Int) + F.len := IntWalk.i64_in _ (by have := HU.out; omega)
          have fz1 := blk_free (blk_drew HR4.out.row) 1
          have fc1 : w4.drew.cell? ⟨rb, 1, none⟩ = some (.int .i64 u) := blk_cell (blk_drew HR4.out.row) 1
          have HFc := Lib.hid fc1
          have HP4 := Lib.hid ((HR4.out.quiet ((Mod.refl [] w4).drew)).put 1 (.int .i64 ((u : Int) + F.len)) ((u : Int) + F.len) jy rfl rfl rfl rfl)
          clear hll
          refine region_J (S := (fun W => W.cell? ⟨rb, 1, none⟩ = some (.int .i64 u) ∧ W.cell? ⟨fb, 1, none⟩ = some (.int .i64 F.len))) (k := 9) (by kernel_rfl) (⟨HFc.out, blk_cell (blk_drew HFr4.out) 1⟩) (fun hHeld => ?_)
          refine anyJ.take3 (i := 0) (oi := ?_) (v := ?_) ?_ (by kernel_rfl) (by kernel_rfl) (by kernel_rfl) (by kernel_rfl) ?_ (Or.inl ⟨?_, ?_⟩) hHeld ?_
          rotate_left 2
          · simp only [List.getElem?_toArray, List.getElem?_cons_succ, List.getElem?_cons_zero]; rfl
          · exact fun _ _ _ h => h
          · rfl
          · intro w hSw; (try dsimp only at hSw); go_simp; try (with_reducible rfl)
          try simp only [Act.put, List.setIfInBounds_toArray, List.set_cons_zero, List.set_cons_succ]
          refine anyJ.take3 (i := 1) (oi := ?_) (v := ?_) ?_ (by kernel_rfl) (by kernel_rfl) (by kernel_rfl) (by kernel_rfl) ?_ (Or.inl ⟨?_, ?_⟩) hHeld ?_
          rotate_left 2
          · simp only [List.getElem?_toArray, List.getElem?_cons_succ, List.getElem?_cons_zero]; rfl
          · exact fun _ _ _ h => h
          · rfl
          · intro w hSw; (try dsimp only at hSw); go_simp; try (with_reducible rfl)
          try simp only [Act.put, List.setIfInBounds_toArray, List.set_cons_zero, List.set_cons_succ]
          refine anyJ.take3 (i := 2) (oi := ?_) (v := ?_) ?_ (by kernel_rfl) (by kernel_rfl) (by kernel_rfl) (by kernel_rfl) ?_ (Or.inl ⟨?_, ?_⟩) hHeld ?_
          rotate_left 2
          · simp only [List.getElem?_toArray, List.getElem?_cons_succ, List.getElem?_cons_zero]; rfl
          · exact fun _ _ _ h => h
          · rfl
          · intro w hSw; (try dsimp only at hSw); go_simp; try (with_reducible rfl)
          try simp only [Act.put, List.setIfInBounds_toArray, List.set_cons_zero, List.set_cons_succ]
          refine anyJ.take3 (i := 3) (oi := ?_) (v := ?_) ?_ (by kernel_rfl) (by kernel_rfl) (by kernel_rfl) (by kernel_rfl) ?_ (Or.inl ⟨?_, ?_⟩) hHeld ?_
          rotate_left 2
          · simp only [List.getElem?_toArray, List.getElem?_cons_succ, List.getElem?_cons_zero]; rfl
          · exact fun _ _ _ h => h
          · rfl
          · intro w hSw; (try dsimp only at hSw); go_simp; try (with_reducible rfl)
          try simp only [Act.put, List.setIfInBounds_toArray, List.set_cons_zero, List.set_cons_succ]
          refine anyJ.take3 (i := 4) (oi := ?_) (v := ?_) ?_ (by kernel_rfl) (by kernel_rfl) (by kernel_rfl) (by kernel_rfl) ?_ (Or.inl ⟨?_, ?_⟩) hHeld ?_
          rotate_left 2
          · simp only [List.getElem?_toArray, List.getElem?_cons_succ, List.getElem?_cons_zero]; rfl
          · exact fun _ _ _ h => h
          · rfl
          · intro w hSw; (try dsimp only at hSw); go_simp; try (with_reducible rfl)
          try simp only [Act.put, List.setIfInBounds_toArray, List.set_cons_zero, List.set_cons_succ]
          refine anyJ.take3 (i := 5) (oi := ?_) (v := ?_) ?_ (by kernel_rfl) (by kernel_rfl) (by kernel_rfl) (by kernel_rfl) ?_ (Or.inl ⟨?_, ?_⟩) hHeld ?_
          rotate_left 2
          · simp only [List.getElem?_toArray, List.getElem?_cons_succ, List.getElem?_cons_zero]; rfl
          · exact fun _ _ _ h => h
          · rfl
          · intro w hSw; (try dsimp only at hSw); go_simp; try (with_reducible rfl)
          try simp only [Act.put, List.setIfInBounds_toArray, List.set_cons_zero, List.set_cons_succ]
          refine anyJ.take3 (i := 6) (oi := ?_) (v := ?_) ?_ (by kernel_rfl) (by kernel_rfl) (by kernel_rfl) (by kernel_rfl) ?_ (Or.inl ⟨?_, ?_⟩) hHeld ?_
          rotate_left 2
          · simp only [List.getElem?_toArray, List.getElem?_cons_succ, List.getElem?_cons_zero]; rfl
          · exact fun _ _ _ h => h
          · rfl
          · intro w hSw; (try dsimp only at hSw); go_simp; try (with_reducible rfl)
          try simp only [Act.put, List.setIfInBounds_toArray, List.set_cons_zero, List.set_cons_succ]
          refine anyJ.take3 (i := 7) (oi := ?_) (v := ?_) ?_ (by kernel_rfl) (by kernel_rfl) (by kernel_rfl) (by kernel_rfl) ?_ (Or.inl ⟨?_, ?_⟩) hHeld ?_
          rotate_left 2
          · simp only [List.getElem?_toArray, List.getElem?_cons_succ, List.getElem?_cons_zero]; rfl
          · exact fun _ _ _ h => h
          · rfl
          · intro w hSw; (try dsimp only at hSw); go_simp; try (with_reducible rfl)
          try simp only [Act.put, List.setIfInBounds_toArray, List.set_cons_zero, List.set_cons_succ]
          refine anyJ.take3 (i := 8) (oi := ?_) (v := ?_) ?_ (by kernel_rfl) (by kernel_rfl) (by kernel_rfl) (by kernel_rfl) ?_ (Or.inl ⟨?_, ?_⟩) hHeld ?_
          rotate_left 2
          · simp only [List.getElem?_toArray, List.getElem?_cons_succ, List.getElem?_cons_zero]; rfl
          · exact fun _ _ _ h => h
          · rfl
          · intro w hSw; (try dsimp only at hSw); go_simp; try (with_reducible rfl)
          try simp only [Act.put, List.setIfInBounds_toArray, List.set_cons_zero, List.set_cons_succ]
          refine anyJ.ready (rs := [9]) (by kernel_rfl) (by simp) ?_
          refine AllJ.last (o := ?_) ?_ (fun K hK => ?_)
          rotate_left
          · simp only [List.getElem?_toArray, List.getElem?_cons_succ, List.getElem?_cons_zero]; rfl
          · go_simp
            refine hK.out _ _ ?_
            clear hK K
            try simp only [Act.put, List.setIfInBounds_toArray, List.set_cons_zero, List.set_cons_succ]
            refine anyJ.done (by kernel_rfl) ?_ _
            go_wp2_with fail
            go_ret
            rw [show takeB l u kind true = true by unfold takeB; rw [HYes.out]; rfl, HU2.out, HYes.out]
            exact ⟨rfl, p4, HP4.out.withKs [] (by simp)⟩
      exact AllReadyH.nil
    exact AllReadyH.nil
  refine AllReadyH.cons (o := ?_) ?_ (fun K hK => ?_) ?_
  rotate_left
  · simp only [List.getElem?_toArray, List.getElem?_cons_succ, List.getElem?_cons_zero]; rfl
  · go_simp
    obtain ⟨fb, hfb⟩ : ∃ fb, w.heap.size = fb := ⟨_, rfl⟩
    have HFa : Hid ((w.drew.alloc (.cells zeroCs 55)).heap[fb]? = some (.cells zeroCs 55 (0, 0))) := Lib.hid (by rw [← hfb]; exact heap_alloc_new w.drew _)
    have HRa := Lib.hid (HR0.out.quiet ((Mod.refl [] w.drew).alloc (.cells zeroCs 55)))
    have HFbB : Hid (w0.heap.size ≤ fb) := Lib.hid (by rw [← hfb]; exact H.out.size)
    rw [hfb]
    clear hfb
    refine hK.out _ _ (⟨blk_cell HRa.out.row 0, blk_cell HRa.out.row 1⟩) ?_
    clear hK K hHeld
    intro hHeld
    try simp only [Act.put, List.setIfInBounds_toArray, List.set_cons_zero, List.set_cons_succ]
    refine wpAnyH_ready (rs := [8]) (by kernel_rfl) (by simp) ?_
    refine AllReadyH.cons (o := ?_) ?_ (fun K hK => ?_) ?_
    rotate_left
    · simp only [List.getElem?_toArray, List.getElem?_cons_succ, List.getElem?_cons_zero]; rfl
    · go_simp
      go_at_call 34
      refine (HAt.out _ HRa.out.below).mono ?_
      intro e w1 hat
      obtain ⟨pa, pc, rfl, hpay, hbl, hpc⟩ := hat.open
      rw [HFe.out] at hpay hpc
      rw [HFe.out, HEe.out]
      have HPay := Lib.hid (hpay.low (B' := w0.heap.size) HRa.out.size)
      have HPc := Lib.hid hpc
      have HR1 := Lib.hid (HRa.out.quiet (Mod.ofBelow hbl))
      have HBl := Lib.hid hbl
      clear hat hpay hbl hpc
      obtain ⟨pn, hpn⟩ : ∃ pn, F.pay.length = pn := ⟨_, rfl⟩
      rw [hpn]
      have HPn := Lib.hid hpn.symm
      clear hpn
      go_simp
      refine hK.out _ _ (⟨blk_cell HR1.out.row 0, blk_cell HR1.out.row 1⟩) ?_
      clear hK K hHeld
      intro hHeld
      try simp only [Act.put, List.setIfInBounds_toArray, List.set_cons_zero, List.set_cons_succ]
      refine wpAnyH_take (i := 9) (oi := ?_) (v := ?_) ?_ (by kernel_rfl) (by kernel_rfl) (by kernel_rfl) ?_ (Or.inl ⟨?_, ?_⟩) hHeld ?_
      rotate_left 2
      · simp only [List.getElem?_toArray, List.getElem?_cons_succ, List.getElem?_cons_zero]; rfl
      · exact fun _ _ _ h => h
      · rfl
      · intro w hSw; (try dsimp only at hSw); go_simp; try (with_reducible rfl)
      try simp only [Act.put, List.setIfInBounds_toArray, List.set_cons_zero, List.set_cons_succ]
      refine wpAnyH_take (i := 10) (oi := ?_) (v := ?_) ?_ (by kernel_rfl) (by kernel_rfl) (by kernel_rfl) ?_ (Or.inl ⟨?_, ?_⟩) hHeld ?_
      rotate_left 2
      · simp only [List.getElem?_toArray, List.getElem?_cons_succ, List.getElem?_cons_zero]; rfl
      · exact fun _ _ _ h => h
      · rfl
      · intro w hSw; (try dsimp only at hSw); go_simp; try (with_reducible rfl)
      try simp only [Act.put, List.setIfInBounds_toArray, List.set_cons_zero, List.set_cons_succ]
      refine wpAnyH_take (i := 11) (oi := ?_) (v := ?_) ?_ (by kernel_rfl) (by kernel_rfl) (by kernel_rfl) ?_ (Or.inl ⟨?_, ?_⟩) hHeld ?_
      rotate_left 2
      · simp only [List.getElem?_toArray, List.getElem?_cons_succ, List.getElem?_cons_zero]; rfl
      · exact fun _ _ _ h => h
      · rfl
      · intro w hSw; (try dsimp only at hSw); go_simp; try (with_reducible rfl)
      try simp only [Act.put, List.setIfInBounds_toArray, List.set_cons_zero, List.set_cons_succ]
      refine wpAnyH_ready (rs := [13]) (by kernel_rfl) (by simp) ?_
      refine AllReadyH.cons (o := ?_) ?_ (fun K hK => ?_) ?_
      rotate_left
      · simp only [List.getElem?_toArray, List.getElem?_cons_succ, List.getElem?_cons_zero]; rfl
      · have HR2 := Lib.hid HR1.out
        have HPay2 := Lib.hid HPay.out
        have HFb := Lib.hid ((Mod.ofBelow HBl.out).row HFa.out (by simp))
        refine step_store_all rfl _ _ _ rfl rfl fb 55 #[.int .i64 F.at_, .int .i64 F.len, .int .i64 F.kind, .slice pa pn pc] zeroCs (by rfl) (by rfl) frame_size (by simp [Value.oneCell']) rfl HFb.out ?_
        intro w3 hr3 hm3
        have HFr := Lib.hid hr3
        have HR3 := Lib.hid (HR2.out.modF hm3 (by
          intro x hx
          simp at hx; subst hx
          exact ⟨HFbB.out, (fun e => by subst e; exact HR2.out.notT (show 48 ≠ 55 by decide) ⟨_, HFb.out⟩), ne_type HFb.out (by decide), ne_type HFb.out (by decide), ne_type HFb.out (by decide)⟩))
        have HPay3 := Lib.hid (HPay2.out.mod hm3 (by
          intro x _ hx hc
          simp at hx; subst hx
          exact ne_type HFb.out (show 55 ≠ 5 by decide) hc))
        clear hr3 hm3
        go_simp
        refine hK.out _ _ (⟨blk_cell HR3.out.row 0, blk_cell HR3.out.row 1⟩) ?_
        clear hK K hHeld
        intro hHeld
        try simp only [Act.put, List.setIfInBounds_toArray, List.set_cons_zero, List.set_cons_succ]
        refine wpAnyH_take (i := 14) (oi := ?_) (v := ?_) ?_ (by kernel_rfl) (by kernel_rfl) (by kernel_rfl) ?_ (Or.inl ⟨?_, ?_⟩) hHeld ?_
        rotate_left 2
        · simp only [List.getElem?_toArray, List.getElem?_cons_succ, List.getElem?_cons_zero]; rfl
        · exact fun _ _ _ h => h
        · rfl
        · intro w hSw; (try dsimp only at hSw); go_simp; try (with_reducible rfl)
        try simp only [Act.put, List.setIfInBounds_toArray, List.set_cons_zero, List.set_cons_succ]
        refine wpAnyH_done (by kernel_rfl) ?_ _
        have HK3 := Lib.hid (HR3.out.withKs [(fb, #[.int .i64 F.at_, .int .i64 F.len, .int .i64 F.kind, .slice pa pn pc])] (by intro x hx; simp at hx; subst hx; exact HFr.out))
        have q0 := blk_cell HFr.out 0
        have q1 := blk_cell HFr.out 1
        have q2 := blk_cell HFr.out 2
        have q3 := blk_cell HFr.out 3
        by_cases he : er = 0
        case neg =>
          have he1 : (er != 0) = true := by simpa using he
          have HNo := Lib.hid (show hitB l u kind = false by rw [HB.out]; simp [he])
          clear he
          go_wp2_with fail
          go_ret
          rw [show takeB l u kind ok = false by unfold takeB; rw [HNo.out]; rfl, HU2.out, HNo.out]
          exact ⟨rfl, p, HR3.out.withKs [] (by simp)⟩
        subst he
        by_cases hk : F.kind = kind
        case neg =>
          have hk1 : (F.kind != kind) = true := by simpa using hk
          have HNo := Lib.hid (show hitB l u kind = false by rw [HB.out]; simp [hk])
          clear hk
          go_wp2_with fail
          go_ret
          rw [show takeB l u kind ok = false by unfold takeB; rw [HNo.out]; rfl, HU2.out, HNo.out]
          exact ⟨rfl, p, HR3.out.withKs [] (by simp)⟩
        have hk1 : (F.kind != kind) = false := by simpa using hk
        have HYes := Lib.hid (show hitB l u kind = true by rw [HB.out]; simp [hk])
        have HRead := Lib.hid (HCr.out HYes.out _ w3 pa pn pc HK3.out HPay3.out HPn.out HPc.out)
        clear hk
        cases ok
        · go_wp2_with ((with_reducible refine HRead.out.mono ?_); rintro e w4 ⟨rfl, p4, h4⟩; have HR4 := Lib.hid h4; clear h4)
          go_ret
          rw [show takeB l u kind false = false by unfold takeB; simp, HU2.out, HYes.out]
          exact ⟨rfl, p4, HR4.out.withKs [] (by simp)⟩
        · go_wp2_with ((with_reducible refine HRead.out.mono ?_); rintro e w4 ⟨rfl, p4, h4⟩; have HR4 := Lib.hid h4; clear h4 q0 q1 q2 q3 k0 k1)
          have hfr4 := HR4.out.keep _ (List.mem_cons_self ..)
          have HFr4 := Lib.hid hfr4
          clear hfr4
          have hll := HLen.out (by trivial)
          have hadd : IntKind.i64.wrap ((u : Int) + F.len) = (u : Int) + F.len := IntWalk.i64_in _ (by have := HU.out; omega)
          have fz1 := blk_free (blk_drew HR4.out.row) 1
          have fc1 : w4.drew.cell? ⟨rb, 1, none⟩ = some (.int .i64 u) := blk_cell (blk_drew HR4.out.row) 1
          have HFc := Lib.hid fc1
          have HP4 := Lib.hid ((HR4.out.quiet ((Mod.refl [] w4).drew)).put 1 (.int .i64 ((u : Int) + F.len)) ((u : Int) + F.len) jy rfl rfl rfl rfl)
          clear hll
          refine region_J (S := (fun W => W.cell? ⟨rb, 1, none⟩ = some (.int .i64 u) ∧ W.cell? ⟨fb, 1, none⟩ = some (.int .i64 F.len))) (k := 9) (by kernel_rfl) (⟨HFc.out, blk_cell (blk_drew HFr4.out) 1⟩) (fun hHeld => ?_)
          refine anyJ.take3 (i := 0) (oi := ?_) (v := ?_) ?_ (by kernel_rfl) (by kernel_rfl) (by kernel_rfl) (by kernel_rfl) ?_ (Or.inl ⟨?_, ?_⟩) hHeld ?_
          rotate_left 2
          · simp only [List.getElem?_toArray, List.getElem?_cons_succ, List.getElem?_cons_zero]; rfl
          · exact fun _ _ _ h => h
          · rfl
          · intro w hSw; (try dsimp only at hSw); go_simp; try (with_reducible rfl)
          try simp only [Act.put, List.setIfInBounds_toArray, List.set_cons_zero, List.set_cons_succ]
          refine anyJ.take3 (i := 1) (oi := ?_) (v := ?_) ?_ (by kernel_rfl) (by kernel_rfl) (by kernel_rfl) (by kernel_rfl) ?_ (Or.inl ⟨?_, ?_⟩) hHeld ?_
          rotate_left 2
          · simp only [List.getElem?_toArray, List.getElem?_cons_succ, List.getElem?_cons_zero]; rfl
          · exact fun _ _ _ h => h
          · rfl
          · intro w hSw; (try dsimp only at hSw); go_simp; try (with_reducible rfl)
          try simp only [Act.put, List.setIfInBounds_toArray, List.set_cons_zero, List.set_cons_succ]
          refine anyJ.take3 (i := 2) (oi := ?_) (v := ?_) ?_ (by kernel_rfl) (by kernel_rfl) (by kernel_rfl) (by kernel_rfl) ?_ (Or.inl ⟨?_, ?_⟩) hHeld ?_
          rotate_left 2
          · simp only [List.getElem?_toArray, List.getElem?_cons_succ, List.getElem?_cons_zero]; rfl
          · exact fun _ _ _ h => h
          · rfl
          · intro w hSw; (try dsimp only at hSw); go_simp; try (with_reducible rfl)
          try simp only [Act.put, List.setIfInBounds_toArray, List.set_cons_zero, List.set_cons_succ]
          refine anyJ.take3 (i := 3) (oi := ?_) (v := ?_) ?_ (by kernel_rfl) (by kernel_rfl) (by kernel_rfl) (by kernel_rfl) ?_ (Or.inl ⟨?_, ?_⟩) hHeld ?_
          rotate_left 2
          · simp only [List.getElem?_toArray, List.getElem?_cons_succ, List.getElem?_cons_zero]; rfl
          · exact fun _ _ _ h => h
          · rfl
          · intro w hSw; (try dsimp only at hSw); go_simp; try (with_reducible rfl)
          try simp only [Act.put, List.setIfInBounds_toArray, List.set_cons_zero, List.set_cons_succ]
          refine anyJ.take3 (i := 4) (oi := ?_) (v := ?_) ?_ (by kernel_rfl) (by kernel_rfl) (by kernel_rfl) (by kernel_rfl) ?_ (Or.inl ⟨?_, ?_⟩) hHeld ?_
          rotate_left 2
          · simp only [List.getElem?_toArray, List.getElem?_cons_succ, List.getElem?_cons_zero]; rfl
          · exact fun _ _ _ h => h
          · rfl
          · intro w hSw; (try dsimp only at hSw); go_simp; try (with_reducible rfl)
          try simp only [Act.put, List.setIfInBounds_toArray, List.set_cons_zero, List.set_cons_succ]
          refine anyJ.take3 (i := 5) (oi := ?_) (v := ?_) ?_ (by kernel_rfl) (by kernel_rfl) (by kernel_rfl) (by kernel_rfl) ?_ (Or.inl ⟨?_, ?_⟩) hHeld ?_
          rotate_left 2
          · simp only [List.getElem?_toArray, List.getElem?_cons_succ, List.getElem?_cons_zero]; rfl
          · exact fun _ _ _ h => h
          · rfl
          · intro w hSw; (try dsimp only at hSw); go_simp; try (with_reducible rfl)
          try simp only [Act.put, List.setIfInBounds_toArray, List.set_cons_zero, List.set_cons_succ]
          refine anyJ.take3 (i := 6) (oi := ?_) (v := ?_) ?_ (by kernel_rfl) (by kernel_rfl) (by kernel_rfl) (by kernel_rfl) ?_ (Or.inl ⟨?_, ?_⟩) hHeld ?_
          rotate_left 2
          · simp only [List.getElem?_toArray, List.getElem?_cons_succ, List.getElem?_cons_zero]; rfl
          · exact fun _ _ _ h => h
          · rfl
          · intro w hSw; (try dsimp only at hSw); go_simp; try (with_reducible rfl)
          try simp only [Act.put, List.setIfInBounds_toArray, List.set_cons_zero, List.set_cons_succ]
          refine anyJ.take3 (i := 7) (oi := ?_) (v := ?_) ?_ (by kernel_rfl) (by kernel_rfl) (by kernel_rfl) (by kernel_rfl) ?_ (Or.inl ⟨?_, ?_⟩) hHeld ?_
          rotate_left 2
          · simp only [List.getElem?_toArray, List.getElem?_cons_succ, List.getElem?_cons_zero]; rfl
          · exact fun _ _ _ h => h
          · rfl
          · intro w hSw; (try dsimp only at hSw); go_simp; try (with_reducible rfl)
          try simp only [Act.put, List.setIfInBounds_toArray, List.set_cons_zero, List.set_cons_succ]
          refine anyJ.take3 (i := 8) (oi := ?_) (v := ?_) ?_ (by kernel_rfl) (by kernel_rfl) (by kernel_rfl) (by kernel_rfl) ?_ (Or.inl ⟨?_, ?_⟩) hHeld ?_
          rotate_left 2
          · simp only [List.getElem?_toArray, List.getElem?_cons_succ, List.getElem?_cons_zero]; rfl
          · exact fun _ _ _ h => h
          · rfl
          · intro w hSw; (try dsimp only at hSw); go_simp; try (with_reducible rfl)
          try simp only [Act.put, List.setIfInBounds_toArray, List.set_cons_zero, List.set_cons_succ]
          refine anyJ.ready (rs := [9]) (by kernel_rfl) (by simp) ?_
          refine AllJ.last (o := ?_) ?_ (fun K hK => ?_)
          rotate_left
          · simp only [List.getElem?_toArray, List.getElem?_cons_succ, List.getElem?_cons_zero]; rfl
          · go_simp
            refine hK.out _ _ ?_
            clear hK K
            try simp only [Act.put, List.setIfInBounds_toArray, List.set_cons_zero, List.set_cons_succ]
            refine anyJ.done (by kernel_rfl) ?_ _
            go_wp2_with fail
            go_ret
            rw [show takeB l u kind true = true by unfold takeB; rw [HYes.out]; rfl, HU2.out, HYes.out]
            exact ⟨rfl, p4, HP4.out.withKs [] (by simp)⟩
      exact AllReadyH.nil
    exact AllReadyH.nil
  exact AllReadyH.nil
end Go.Proofs.YtbhdlclaooohfaaGreatDoor

