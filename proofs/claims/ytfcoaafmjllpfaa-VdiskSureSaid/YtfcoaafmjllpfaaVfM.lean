/- The disk: a turn of the names, that waits. -/
import Derived.Test.YtfcoaafmjllpfaaVfL
namespace Go.Proofs.Ytfcoaafmjllpfaa
open Go.ChangeShapes Go.WideShapes Go.ChangeAt Go.RowKit
set_option linter.unusedVariables false
set_option linter.unusedSimpArgs false

structure TurnM where
  fr : ByteArray
  to_ : ByteArray
  p : Value
def tuCells (ts : List TurnM) : List Value := ts.flatMap fun t => [.string t.fr, .string t.to_, t.p]
theorem tuCells_append (a b : List TurnM) : tuCells (a ++ b) = tuCells a ++ tuCells b := by simp [tuCells]
theorem tuinfo : (Try.prog.info? 68).map (fun i => (i.zero, i.size, i.bytes)) = some (some (.agg #[.string ByteArray.empty, .string ByteArray.empty, .pointer none]), 3, 40) := by kernel_rfl
/-- a row of turns -/
def Turns (w : World) (tu : Value) (ts : List TurnM) : Prop := w.ownsRow 0 68 3 tu ts.length (tuCells ts)
theorem Turns.mod {F : List Nat} {w w' : World} {tu : Value} {ts : List TurnM} (h : Turns w tu ts) (hm : Mod F w w') (hF : ∀ k, tu.ownBlock = some k → k ∉ F) : Turns w' tu ts := hm.owns h hF
theorem step_appendT (w : World) {ops : Array Oper} {o : Oper} {a : Act} {K : Act → World → Prop} {Q : Exit → Act → World → Prop} {E : Prop} (hgd : o.guard = none) (s x : Operand)
    (ho : o.op = .call { callee := .builtin .append, args := #[s, x], argTypes := #[52, 52] }) (v : Value) (ts : List TurnM) (hs : a.eval s = v) (hown : Turns w v ts)
    (g : Nat) (m : TurnM) (hp : m.p.oneCell' = true) (hx : a.eval x = .slice (some ⟨g, 0, none⟩) 1 1) (hg : w.heap[g]? = some (.cells #[.string m.fr, .string m.to_, m.p] 68 (0, 0))) (hl : ts.length ≤ 1000000000)
    (h : ∀ v' w', Turns w' v' (ts ++ [m]) → Mod v.ownBlock.toList w w' → (v'.ownBlock = v.ownBlock ∨ v'.ownBlock = some w.heap.size) → K (a.put o.dst v') w') : if Region.wanted o (yielded ops a.tmps) = true then Oper.wp Try.prog o a w K Q else E := by
  have hw : Region.wanted o (yielded ops a.tmps) = true := by simp [Region.wanted, hgd]
  rw [if_pos hw]
  obtain ⟨i, hi1, hi2, hi3, hi4⟩ := info_parts tuinfo
  have hsrc : Src Try.prog 3 52 (.slice (some ⟨g, 0, none⟩) 1 1) 1 (tuCells [m]) w := by
    refine Src.ofSlice w Try.underlying52 _ 1 1 _ (by simp [tuCells]) ?_ (by intro u hu; simp [tuCells] at hu; rcases hu with rfl | rfl | rfl; rfl; rfl; exact hp)
    intro j u hj
    rw [Addr.add_lit, blk_cell hg]
    simpa [tuCells] using hj
  obtain ⟨v', w', hr, h1, h2, h3⟩ := run_append_src (P := Try.prog) w 0 52 52 o.type 68 i _ 3 40 Try.underlying52 hi1 hi2 hi3 hi4 rfl v _ _ hown _ _ _ hsrc (by simp only [maxLen]; omega) (by omega) (Nat.zero_le _)
  unfold Oper.wp execOp
  simp only [ho, resolve, invoke, builtin, Sem.run_bind, Sem.run_pure, Result.andThen_ok, List.map_toArray, List.map_cons, List.map_nil, hs, hx, hr]
  refine h v' w' ?_ (Mod.ofGrown h2) h3
  unfold Turns
  rw [tuCells_append, List.length_append, List.length_singleton]
  exact h1
theorem own_len (a : Option Addr) (x y c : Nat) : (Value.slice a x c).ownBlock = (Value.slice a y c).ownBlock := by cases a <;> rfl
structure TurnP (w : World) (g : Nat) (d : DiskN) (nm su : Nat) (tu kn : Value) (n : Nat) (L : NmL) (ts : List TurnM) (m : TurnM) (b : Nat) (w' : World) : Prop where
  row : ∃ tu', DRow w' g d nm su tu' kn ∧ Turns w' tu' (ts ++ [m]) ∧ (tu'.ownBlock = tu.ownBlock ∨ ∃ q, tu'.ownBlock = some q ∧ w.heap.size ≤ q)
  names : Names w' nm (n + 1) (turnL L m.fr m.to_ b)
  mod : Mod (g :: nm :: tu.ownBlock.toList) w w'
set_option maxRecDepth 100000 in
set_option maxHeartbeats 2000000 in
theorem turn_any (w : World) (g : Nat) (d : DiskN) (nm su : Nat) (tu kn : Value) (h : DRow w g d nm su tu kn) (n : Nat) (L : NmL) (hn : Names w nm n L) (hn6 : n < maxLen) (ts : List TurnM) (ht : Turns w tu ts) (hts : ts.length ≤ 1000000000)
    (m : TurnM) (b : Nat) (hf : m.fr.size ≤ maxLen) (hto : m.to_.size ≤ maxLen) (hp : m.to_.size ≠ 0 → m.p = fptr b) (hp1 : m.p.oneCell' = true) :
    Calls Try.prog 27 #[.pointer (some ⟨g, 0, none⟩), .agg (turnC m.fr m.to_ m.p)] w fun e w' => e = .returned (.tuple #[]) ∧ TurnP w g d nm su tu kn n L ts m b w' := by
  obtain ⟨fr, to_, p⟩ := m
  simp only at hf hto hp hp1
  have hng : nm ≠ g := by
    rintro rfl
    obtain ⟨es, clock, hb, -⟩ := hn
    rw [h] at hb
    cases hb
  have hm0 : Mod [] w (w.alloc (.cells (turnC fr to_ p) 68)) := (Mod.refl [] w).alloc _
  have hdw := ((Mod.refl [] (w.alloc (.cells (turnC fr to_ p) 68))).drew)
  have HN := Lib.hid ((hn.mod hm0 (by simp)).mod hdw (by simp))
  have HR := Lib.hid (hm0.row h (by simp))
  have HB := Lib.hid (heap_alloc_new w (.cells (turnC fr to_ p) 68))
  have HT := Lib.hid (ht.mod hm0 (by simp))
  have HM0 := Lib.hid hm0
  have hgl := blk_lt h
  have hnl := hn.lt
  have hD := turnDo_any _ nm n L HN.out hn6 fr to_ hf hto p b hp
  have HD := Lib.hid hD
  have hgt : ∀ k, tu.ownBlock = some k → k ≠ g ∧ k ≠ nm ∧ k < w.heap.size := fun k hk => by
    refine ⟨?_, ?_, (owns_lt ht hk).2⟩
    · rintro rfl
      exact (owns_isT ht hk).ne (by decide) (⟨_, h⟩ : IsT 55 w k)
    · rintro rfl
      obtain ⟨cur, hc⟩ := owns_isT ht hk
      obtain ⟨es, clock, hb, -⟩ := hn
      rw [hc] at hb
      cases hb
  have HGt := Lib.hid hgt
  have HNg := Lib.hid hng
  have HTl := Lib.hid hts
  clear h hn ht hD hdw hm0 hgt hts
  go_enter Try.func27, Try.ntmps27
  go_wp2_with fail
  generalize hw0 : w.alloc (.cells (turnC fr to_ p) 68) = w0 at *
  generalize hgb : w.heap.size = gb at *
  have k1 : w0.cell? ⟨g, 1, none⟩ = some (.map (some nm)) := blk_cell HR.out 1
  have j0 : w0.cell? ⟨gb, 0, none⟩ = some (.string fr) := blk_cell HB.out 0
  have j1 : w0.cell? ⟨gb, 1, none⟩ = some (.string to_) := blk_cell HB.out 1
  have j2 : w0.cell? ⟨gb, 2, none⟩ = some p := blk_cell HB.out 2
  go_region_with (first
    | (go_at_call 54; refine HD.out.mono ?_; rintro e w3 ⟨rfl, hn3, hm3⟩; have HN3 := Lib.hid hn3; have HM3 := Lib.hid hm3; clear hn3 hm3))
  all_goals
    have hg3 : g ∉ [nm] := by simp; exact fun h => HNg.out h.symm
    have hgb3 : gb ∉ [nm] := by simp; omega
    have hr3 := HM3.out.row (blk_drew HR.out) hg3
    have hb3 := HM3.out.row (blk_drew HB.out) hgb3
    have ht3 : Turns w3 tu ts := (HT.out.mod ((Mod.refl [] w0).drew) (by simp)).mod HM3.out (fun k hk => by simp; exact (HGt.out k hk).2.1)
    clear k1 j0 j1 j2
    have k3 : w3.cell? ⟨g, 3, none⟩ = some tu := blk_cell hr3 3
    have j0 : w3.cell? ⟨gb, 0, none⟩ = some (.string fr) := blk_cell hb3 0
    have j1 : w3.cell? ⟨gb, 1, none⟩ = some (.string to_) := blk_cell hb3 1
    have j2 : w3.cell? ⟨gb, 2, none⟩ = some p := blk_cell hb3 2
    have HGa := Lib.hid (heap_alloc_new w3 (.cells #[.string fr, .string to_, p] 68))
    have hma : Mod [] w3 (w3.alloc (.cells #[.string fr, .string to_, p] 68)) := (Mod.refl [] w3).alloc _
    have HMa := Lib.hid hma.drew
    have HTa := Lib.hid (ht3.mod hma.drew (by simp))
    have HRa := Lib.hid (hma.drew.row hr3 (by simp))
    have k3a : (w3.alloc (.cells #[.string fr, .string to_, p] 68)).cell? ⟨g, 3, none⟩ = some tu := blk_cell (hma.row hr3 (by simp)) 3
    have HR3 := Lib.hid hr3
    have hs3 := HM3.out.size
    have HS3 := Lib.hid hs3
    clear hr3 hb3 ht3 hma hg3 hgb3
    go_wp2_with fail
    go_region_law (refine step_appendT _ rfl _ _ rfl _ ts rfl HTa.out _ ⟨fr, to_, p⟩ hp1 rfl HGa.out HTl.out ?_; intro v5 w5 ho5 hm5 hb5; obtain ⟨a5, c5, rfl, -, -⟩ := owns_shape ho5; have hr5 := hm5.row HRa.out (fun hx => (HGt.out g (Option.mem_toList.1 hx)).1 rfl); have k5 : w5.cell? ⟨g, 3, none⟩ = some tu := blk_cell hr5 3; have z5 := blk_free hr5 3; have HO5 := Lib.hid ho5; have HM5 := Lib.hid hm5; have HB5 := Lib.hid hb5; have HR5 := Lib.hid hr5; clear ho5 hm5 hb5 hr5)
    all_goals
      go_wp2_with fail
      go_end0
      refine And.intro rfl ?_
      have hs5 := HMa.out.size
      have hs0 : gb ≤ w3.heap.size := by have := HS3.out; have := blk_lt HB.out; simp at *; omega
      have hng := HNg.out
      have hgl2 : g < gb := hgl
      refine ⟨⟨_, blk_set HR5.out 3 _, ?_, ?_⟩, ?_, ?_⟩
      · refine Turns.mod (by simpa using HO5.out) (mod_set w5 g 3 _) ?_
        intro k hk
        simp only [List.mem_singleton]
        rintro rfl
        exact (owns_isT HO5.out (by simpa using hk)).ne (by decide) (⟨_, HR5.out⟩ : IsT 55 w5 k)
      · rcases HB5.out with hb | hb
        · exact .inl ((own_len _ _ _ _).trans hb)
        · refine .inr ⟨_, (own_len _ _ _ _).trans hb, ?_⟩
          omega
      · exact ((HN3.out.mod HMa.out (by simp)).mod HM5.out (fun hx => (HGt.out nm (Option.mem_toList.1 hx)).2.1 rfl)).mod (mod_set w5 g 3 _) (by simp; exact hng)
      · refine (((((HM0.out.drew).mono (by simp)).trans (HM3.out.mono ?_)).trans (HMa.out.mono (by simp))).trans (HM5.out.mono ?_)).trans ((mod_set w5 g 3 _).mono ?_)
        · intro x hx
          simp only [List.mem_singleton] at hx
          exact .inl (by rw [hx]; simp)
        · intro x hx
          exact .inl (List.mem_cons_of_mem _ (List.mem_cons_of_mem _ hx))
        · intro x hx
          simp only [List.mem_singleton] at hx
          exact .inl (by rw [hx]; simp)
end Go.Proofs.Ytfcoaafmjllpfaa
