/- Mailboxes: records that came in; the table of fields; Few. -/
import Derived.Test.YtfcdapicemlfgaaDoorMbE
import Derived.Test.YtfcdapicemlfgaaDoorTxs
import Derived.Test.YtfcdapicemlfgaaDoorRows
import Derived.LaidMore
import Derived.Lib.LaidU8
import Derived.Stop.LaidErr
import Derived.Deep.Slices
namespace Go.Proofs.YtfcdapicemlfgaaDoor
open Go.ChangeShapes Go.WideShapes Go.ChangeAt Go.RowKit
open Qu
set_option linter.unusedVariables false
set_option linter.unusedSimpArgs false

theorem gForms : Tryd.prog.globalNamed "pigeonhole/record.forms" = some 0 := by kernel_rfl
theorem tForms : (Tryd.prog.globals[0]?).map (·.type) = some 99 := by kernel_rfl
abbrev formsData : DataW Unit := .agg ((List.range 10).map fun f => .agg ([(szF f : Int), loF f, hiF f].map fun z => .lit (.int .i64 z)))
theorem forms_of_reads {w : World} (h : Lib.VarReads Tryd.prog w "pigeonhole/record.forms" formsData) : Forms w := by
  intro f hf
  obtain ⟨g, t, cs, fuel, p, hg, hty, hvar, hd⟩ := h
  obtain rfl := Option.some.inj (gForms.symm.trans hg)
  obtain rfl := Option.some.inj (tForms.symm.trans hty)
  obtain ⟨fuel', d, q, hdi, he⟩ := Lib.array_elem Tryd.underlying99 hd f hf
  simp only [List.getElem?_map, List.getElem?_range hf, Option.map_some, Option.some.injEq] at hdi
  subst hdi
  have ce : Tryd.prog.cellsOf 98 = 3 := by kernel_rfl
  have ci : Tryd.prog.cellsOf 3 = 1 := by kernel_rfl
  rw [ce] at he
  have hcs := Lib.ints_of_struct Tryd.underlying98 (fun j fl hj => by
    match j, hj with
    | 0, hj => simp at hj; subst hj; exact ⟨Tryd.underlying3, rfl, ci⟩
    | 1, hj => simp at hj; subst hj; exact ⟨Tryd.underlying3, rfl, ci⟩
    | 2, hj => simp at hj; subst hj; exact ⟨Tryd.underlying3, rfl, ci⟩
    | j + 3, hj => simp at hj) (by rw [ce]; rfl) he
  have e0 := congrArg (·[0]?) hcs
  have e1 := congrArg (·[1]?) hcs
  have e2 := congrArg (·[2]?) hcs
  simp only [List.getElem?_take, List.getElem?_drop] at e0 e1 e2
  refine ⟨?_, ?_, ?_⟩
  · rw [World.var?_cell hg hvar (f * 3), ← Array.getElem?_toList]; simpa using e0
  · rw [World.var?_cell hg hvar (f * 3 + 1), ← Array.getElem?_toList]; simpa using e1
  · rw [World.var?_cell hg hvar (f * 3 + 2), ← Array.getElem?_toList]; simpa using e2
/-- a record that came in, or one of a row -/
def InRec (W : World) (rc : Rc) (pa : Option Addr) : Prop := rc.ns.length = 10 ∧ Cells8 W pa rc.data ∧ rc.data.length ≤ 9223372036854775807
section
variable {H : Type} {enc : TypeId × Value → H}
theorem open_recc {W : World} {base : Nat} {fuel : Nat} {c0 c1 c2 c3 c4 c5 c6 c7 c8 c9 c10 c11 : Value} {x : DataW H × List MemPlace} (h : DataW.trod enc Tryd.prog W base (fun _ => true) true fuel 35 [c0, c1, c2, c3, c4, c5, c6, c7, c8, c9, c10, c11] = some x) :
    ∃ (rc : Rc) (pa : Option Addr) (pc : Nat), [c0, c1, c2, c3, c4, c5, c6, c7, c8, c9, c10, c11] = (recA rc pa pc).toList ∧ InRec W rc pa := by
  obtain ⟨xs, m, _, _, _, hlen, hf⟩ := DataW.trod_struct Tryd.underlying35 h
  have e1 : Tryd.prog.cellsOf 3 = 1 := by kernel_rfl
  have e2 : Tryd.prog.cellsOf 33 = 1 := by kernel_rfl
  match xs, hlen with
  | [y0, y1, y2, y3, y4, y5, y6, y7, y8, y9, y10, y11], _ =>
    have h0 : DataW.trod enc Tryd.prog W base (fun _ => true) true m 3 (List.take (Tryd.prog.cellsOf 3) [c0, c1, c2, c3, c4, c5, c6, c7, c8, c9, c10, c11]) = some y0 := hf 0 _ rfl
    have h1 : DataW.trod enc Tryd.prog W base (fun _ => true) true m 3 (List.take (Tryd.prog.cellsOf 3) [c1, c2, c3, c4, c5, c6, c7, c8, c9, c10, c11]) = some y1 := hf 1 _ rfl
    have h2 : DataW.trod enc Tryd.prog W base (fun _ => true) true m 3 (List.take (Tryd.prog.cellsOf 3) [c2, c3, c4, c5, c6, c7, c8, c9, c10, c11]) = some y2 := hf 2 _ rfl
    have h3 : DataW.trod enc Tryd.prog W base (fun _ => true) true m 3 (List.take (Tryd.prog.cellsOf 3) [c3, c4, c5, c6, c7, c8, c9, c10, c11]) = some y3 := hf 3 _ rfl
    have h4 : DataW.trod enc Tryd.prog W base (fun _ => true) true m 3 (List.take (Tryd.prog.cellsOf 3) [c4, c5, c6, c7, c8, c9, c10, c11]) = some y4 := hf 4 _ rfl
    have h5 : DataW.trod enc Tryd.prog W base (fun _ => true) true m 3 (List.take (Tryd.prog.cellsOf 3) [c5, c6, c7, c8, c9, c10, c11]) = some y5 := hf 5 _ rfl
    have h6 : DataW.trod enc Tryd.prog W base (fun _ => true) true m 3 (List.take (Tryd.prog.cellsOf 3) [c6, c7, c8, c9, c10, c11]) = some y6 := hf 6 _ rfl
    have h7 : DataW.trod enc Tryd.prog W base (fun _ => true) true m 3 (List.take (Tryd.prog.cellsOf 3) [c7, c8, c9, c10, c11]) = some y7 := hf 7 _ rfl
    have h8 : DataW.trod enc Tryd.prog W base (fun _ => true) true m 3 (List.take (Tryd.prog.cellsOf 3) [c8, c9, c10, c11]) = some y8 := hf 8 _ rfl
    have h9 : DataW.trod enc Tryd.prog W base (fun _ => true) true m 3 (List.take (Tryd.prog.cellsOf 3) [c9, c10, c11]) = some y9 := hf 9 _ rfl
    have h10 : DataW.trod enc Tryd.prog W base (fun _ => true) true m 3 (List.take (Tryd.prog.cellsOf 3) [c10, c11]) = some y10 := hf 10 _ rfl
    have h11 : DataW.trod enc Tryd.prog W base (fun _ => true) true m 33 (List.take (Tryd.prog.cellsOf 33) [c11]) = some y11 := hf 11 _ rfl
    rw [e1] at h0 h1 h2 h3 h4 h5 h6 h7 h8 h9 h10
    rw [e2] at h11
    obtain ⟨i0, q0, _, _⟩ := DataW.trod_int Tryd.underlying3 h0
    obtain ⟨i1, q1, _, _⟩ := DataW.trod_int Tryd.underlying3 h1
    obtain ⟨i2, q2, _, _⟩ := DataW.trod_int Tryd.underlying3 h2
    obtain ⟨i3, q3, _, _⟩ := DataW.trod_int Tryd.underlying3 h3
    obtain ⟨i4, q4, _, _⟩ := DataW.trod_int Tryd.underlying3 h4
    obtain ⟨i5, q5, _, _⟩ := DataW.trod_int Tryd.underlying3 h5
    obtain ⟨i6, q6, _, _⟩ := DataW.trod_int Tryd.underlying3 h6
    obtain ⟨i7, q7, _, _⟩ := DataW.trod_int Tryd.underlying3 h7
    obtain ⟨i8, q8, _, _⟩ := DataW.trod_int Tryd.underlying3 h8
    obtain ⟨i9, q9, _, _⟩ := DataW.trod_int Tryd.underlying3 h9
    obtain ⟨i10, q10, _, _⟩ := DataW.trod_int Tryd.underlying3 h10
    simp at q0 q1 q2 q3 q4 q5 q6 q7 q8 q9 q10
    subst q0 q1 q2 q3 q4 q5 q6 q7 q8 q9 q10
    simp only [List.take_succ_cons, List.take_zero] at h11
    rcases open_ints Tryd.underlying33 Tryd.underlying5 (by kernel_rfl) h11 with ⟨hcs, _⟩ | ⟨xa, l, c, zs, hcs, _, hl, hm, hz, _, hcell, hwz⟩
    · simp at hcs
      subst hcs
      exact ⟨⟨i0, [i1, i2, i3, i4, i5, i6, i7, i8, i9, i10], []⟩, none, 0, rfl, rfl, Cells8.nil _ _, by simp⟩
    · simp at hcs
      subst hcs
      obtain ⟨d, k1, k2, k3⟩ := row8 hl hm (by simpa using hz) hcell hwz
      subst k2
      exact ⟨⟨i0, [i1, i2, i3, i4, i5, i6, i7, i8, i9, i10], d⟩, some xa, c, rfl, rfl, k1, k3⟩
set_option maxRecDepth 100000 in
set_option linter.constructorNameAsVariable false in
theorem array12 {cs : Array Value} (h : cs.size = 12) : ∃ c0 c1 c2 c3 c4 c5 c6 c7 c8 c9 c10 c11, cs = #[c0, c1, c2, c3, c4, c5, c6, c7, c8, c9, c10, c11] := by
  obtain ⟨l⟩ := cs
  match l, h with
  | [c0, c1, c2, c3, c4, c5, c6, c7, c8, c9, c10, c11], _ => exact ⟨c0, c1, c2, c3, c4, c5, c6, c7, c8, c9, c10, c11, rfl⟩
set_option maxRecDepth 100000 in
theorem open_rec {W : World} {r : Reach} {b0 base : Nat} {v : Value} {d : DataW H} {p : List MemPlace} (hv : Value.okWide Tryd.prog W r b0 35 v) (h : DataW.Trod enc Tryd.prog W base (fun _ => true) true 35 v d p) :
    ∃ (rc : Rc) (pa : Option Addr) (pc : Nat), v = .agg (recA rc pa pc) ∧ InRec W rc pa := by
  obtain ⟨cs, rfl, hsz⟩ := okWide_struct Tryd.underlying35 hv
  have e3 : Tryd.prog.cellsOf 35 = 12 := by kernel_rfl
  rw [e3] at hsz
  obtain ⟨c0, c1, c2, c3, c4, c5, c6, c7, c8, c9, c10, c11, rfl⟩ := array12 hsz
  obtain ⟨fuel, hf⟩ := h
  obtain ⟨rc, pa, pc, k1, k2⟩ := open_recc (show DataW.trod enc Tryd.prog W base (fun _ => true) true fuel 35 [c0, c1, c2, c3, c4, c5, c6, c7, c8, c9, c10, c11] = some (d, p) from hf)
  refine ⟨rc, pa, pc, ?_, k2⟩
  have : (#[c0, c1, c2, c3, c4, c5, c6, c7, c8, c9, c10, c11] : Array Value) = recA rc pa pc := by rw [← Array.toList_inj]; exact k1
  rw [this]
end
def Rc.none : Rc := ⟨0, [], []⟩
instance : Inhabited Rc := ⟨Rc.none⟩
/-- records that came in -/
def InRecs (W : World) (a : Option Addr) (rs : List Rc) : Prop := rs = [] ∨ ∃ b o, a = some ⟨b, o, none⟩ ∧ ∀ i, i < rs.length → ∃ pa pc, (∀ j, j < 12 → W.cell? ⟨b, o + i * 12 + j, none⟩ = (recA (rs.getD i Rc.none) pa pc)[j]?) ∧ InRec W (rs.getD i Rc.none) pa
theorem InRec.quiet {w w' : World} {r : Rc} {pa : Option Addr} (h : InRec w r pa) (hm : Mod [] w w') : InRec w' r pa := ⟨h.1, h.2.1.mod hm (by simp), h.2.2⟩
theorem InRecs.quiet {w w' : World} {a : Option Addr} {rs : List Rc} (h : InRecs w a rs) (hm : Mod [] w w') : InRecs w' a rs := by
  rcases h with h1 | ⟨b, o, rfl, hc⟩
  · exact .inl h1
  · refine .inr ⟨b, o, rfl, fun i hi => ?_⟩
    obtain ⟨pa, pc, k1, k2⟩ := hc i hi
    refine ⟨pa, pc, fun j hj => ?_, k2.quiet hm⟩
    have h1 := k1 j hj
    obtain ⟨x, hx⟩ : ∃ x, (recA (rs.getD i Rc.none) pa pc)[j]? = some x := ⟨_, Array.getElem?_eq_getElem (by simpa using hj)⟩
    rw [hx] at h1 ⊢
    exact hm.cell h1 (by simp)
section
variable {H : Type} {enc : TypeId × Value → H}
theorem open_recs {W : World} {a : Option Addr} {len cap fuel : Nat} {x : DataW H × List MemPlace} (hf : DataW.trod enc Tryd.prog W 0 (fun _ => true) true fuel 22 [.slice a len cap] = some x) :
    ∃ l, InRecs W a l ∧ len = l.length ∧ l.length ≤ 9223372036854775807 := by
  rcases Go.Deep.open_slice Tryd.underlying22 hf with ⟨hcs, _⟩ | ⟨a', len', cap', m, n, D, Pl, hcs, _, hl, hm, hmm, _, hi⟩
  · simp at hcs
    obtain ⟨rfl, rfl, rfl⟩ := hcs
    exact ⟨[], .inl rfl, rfl, by simp⟩
  · simp at hcs
    obtain ⟨rfl, rfl, rfl⟩ := hcs
    have hmx : maxLen = 9223372036854775807 := rfl
    have ce : Tryd.prog.cellsOf 35 = 12 := by kernel_rfl
    have hlm : len ≤ m := by rw [hmm]; split <;> omega
    have key : ∀ i, i < len → ∃ q : Rc × Option Addr × Nat, (∀ j, j < 12 → W.cell? (a'.add (i * 12 + j)) = (recA q.1 q.2.1 q.2.2)[j]?) ∧ InRec W q.1 q.2.1 := by
      intro i hil
      obtain ⟨cs', h1, h2⟩ := hi i (by omega)
      rw [ce] at h1
      obtain ⟨_, hlen, hcell⟩ := World.cells?_some h1
      match cs', hlen with
      | [c0, c1, c2, c3, c4, c5, c6, c7, c8, c9, c10, c11], _ =>
        obtain ⟨rc, pa, pc, k1, k2⟩ := open_recc h2
        refine ⟨(rc, pa, pc), fun j hj => ?_, k2⟩
        have e0 := hcell j (by simpa using hj)
        rw [Go.Deep.add_add] at e0
        rw [e0]
        have e1 : (recA rc pa pc)[j]? = (recA rc pa pc).toList[j]? := by simp
        rw [e1, ← k1]
    obtain ⟨f, hfi⟩ := Go.Deep.choose_lt key
    have hget : ∀ i, i < len → ((List.range len).map fun i => (f i).1).getD i Rc.none = (f i).1 := by
      intro i hi; simp [List.getD, hi]
    refine ⟨(List.range len).map fun i => (f i).1, ?_, by simp, by simp; omega⟩
    by_cases h0 : len = 0
    · left; subst h0; rfl
    · right
      obtain ⟨b, o, spot⟩ := a'
      have hc0 := (hfi 0 (by omega)).1 0 (by omega)
      have hspot : spot = none := by
        have h1 : W.cell? (⟨b, o, spot⟩ : Addr) = some (.int .i64 (f 0).1.kind) := by simpa [Addr.add] using hc0
        exact World.cell?_spot h1
      subst hspot
      refine ⟨b, o, rfl, fun i hi => ?_⟩
      have hi' : i < len := by simpa using hi
      rw [hget i hi']
      obtain ⟨k0, k1⟩ := hfi i hi'
      refine ⟨(f i).2.1, (f i).2.2, fun j hj => ?_, k1⟩
      have := k0 j hj
      rw [Addr.add_lit, ← Nat.add_assoc] at this
      exact this
end
def lightB (r : Rc) : Bool := decide ((r.data.length : Int) ≤ 1000)
theorem light_any (r : Rc) (pa : Option Addr) (pc : Nat) (w : World) : Calls Tryd.prog 29 #[.agg (recA r pa pc)] w fun e w' => e = .returned (.bool (lightB r)) ∧ Mod [] w w' := by
  have H := Lib.hid (show lightB r = decide ((r.data.length : Int) ≤ 1000) from rfl)
  go_enter Tryd.func29, Tryd.ntmps29
  go_wp2
  all_goals (go_ret; exact ⟨ret_bool (by rw [H.out]; try simp [*]), (Mod.refl [] w).alloc _⟩)
theorem light_len {r : Rc} (h : lightB r = true) : r.data.length ≤ 1000 := by
  unfold lightB at h
  rw [decide_eq_true_eq] at h
  omega
theorem take_getD (rs : List Rc) {n : Nat} (h : n < rs.length) : rs.take (n + 1) = rs.take n ++ [rs.getD n Rc.none] := by
  rw [List.take_succ_eq_append_getElem h]; simp [List.getD, h]
theorem InRecs.get {W : World} {a : Option Addr} {rs : List Rc} (h : InRecs W a rs) {n : Nat} (hn : n < rs.length) : ∃ b o, a = some ⟨b, o, none⟩ ∧ ∃ pa pc, (∀ j, j < 12 → W.cell? ⟨b, o + n * 12 + j, none⟩ = (recA (rs.getD n Rc.none) pa pc)[j]?) ∧ InRec W (rs.getD n Rc.none) pa := by
  rcases h with rfl | ⟨b, o, rfl, hc⟩
  · simp at hn
  · exact ⟨b, o, rfl, hc n hn⟩

theorem sizeRec : ∀ w, (Go.sizeOf 35).run Tryd.prog w = .ok 12 w := Tryd.sizeOf35
theorem ixR {P : Program} (t e : TypeId) (ht : P.underlying t = some (.slice e)) (k : Nat) (hz : ∀ w, (Go.sizeOf e).run P w = .ok k w) (a : Option Addr) (b o n cap i : Nat) (ha : a = some ⟨b, o, none⟩) (hi : i < n) (W : World) : (Instr.indexAt t (.slice a n cap) (.int .i64 i)).run P W = .ok (.pointer (some ⟨b, o + i * k, none⟩)) W := ixa t e ht k hz a b o n cap i ha hi W
/-- are records few and light? -/
def fewB (rs : List Rc) : Bool := decide (rs.length ≤ 40) && rs.all lightB
theorem all_nth {rs : List Rc} {k : Nat} (h : (rs.take k).all lightB = true) (hk : k < rs.length) (hl : lightB (rs.getD k Rc.none) = true) : (rs.take (k + 1)).all lightB = true := by
  rw [take_getD rs hk, List.all_append, h]; simp only [List.all_cons, hl, List.all_nil, Bool.and_self]
theorem all_bad {rs : List Rc} {k : Nat} (hk : k < rs.length) (hl : lightB (rs.getD k Rc.none) = false) : rs.all lightB = false := by
  cases h : rs.all lightB
  · rfl
  · rw [List.all_eq_true] at h
    have := h _ (List.getElem_mem hk)
    have e : rs.getD k Rc.none = rs[k] := by simp [List.getD, hk]
    rw [e] at hl; rw [hl] at this; cases this
set_option maxHeartbeats 2000000 in
theorem few_any (w : World) (a : Option Addr) (cap : Nat) (rs : List Rc) (h : InRecs w a rs) (hl : rs.length ≤ 9223372036854775807) : Calls Tryd.prog 8 #[.slice a rs.length cap, .int .i64 40] w fun e w' => e = .returned (.bool (fewB rs)) ∧ Mod [] w w' := by
  have H := Lib.hid h
  clear h
  by_cases h40 : 40 < rs.length
  · have HR := Lib.hid (show fewB rs = false by unfold fewB; have : ¬ rs.length ≤ 40 := by omega
                                                simp [this])
    have h40' : (40 : Int) < (rs.length : Int) := by omega
    clear h40
    go_enter Tryd.func8, Tryd.ntmps8
    go_wp2_with fail
    go_ret
    exact ⟨by rw [HR.out]; rfl, Mod.refl _ _⟩
  · have HR := Lib.hid (show fewB rs = rs.all lightB by unfold fewB; have : rs.length ≤ 40 := by omega
                                                        simp [this])
    have h40' : (rs.length : Int) ≤ 40 := by omega
    clear h40
    go_enter Tryd.func8, Tryd.ntmps8
    go_wp2_with fail
    go_loopw [5] (fun v wr => ∃ k : Nat, v = .int .i64 k ∧ k ≤ rs.length ∧ (rs.take k).all lightB = true ∧ Mod [] w wr) (fun v _ => rs.length - (intOf v).toNat)
    case atStart => exact ⟨0, rfl, Nat.zero_le _, by simp, Mod.refl _ _⟩
    case round =>
      obtain ⟨k, rfl, hk, hall, hm⟩ := hrel
      have HM := Lib.hid hm
      have HA := Lib.hid hall
      clear hm hall
      by_cases hlt : k < rs.length
      · obtain ⟨b, o, ha, pa, pc, hc, hin⟩ := (H.out.quiet HM.out).get hlt
        have hix := ixR (P := Tryd.prog) 22 35 Tryd.underlying22 12 sizeRec a b o rs.length cap k ha hlt
        have HG := Lib.hid (fun hl => all_nth HA.out hlt hl)
        have HN := Lib.hid (fun hl => all_bad hlt hl)
        obtain ⟨r, hr⟩ : ∃ r, rs.getD k Rc.none = r := ⟨_, rfl⟩
        rw [hr] at hc HG HN
        clear hr ha hin
        have c0 := hc 0 (by decide)
        rw [Nat.add_zero] at c0
        have c1 := hc 1 (by decide)
        have c2 := hc 2 (by decide)
        have c3 := hc 3 (by decide)
        have c4 := hc 4 (by decide)
        have c5 := hc 5 (by decide)
        have c6 := hc 6 (by decide)
        have c7 := hc 7 (by decide)
        have c8 := hc 8 (by decide)
        have c9 := hc 9 (by decide)
        have c10 := hc 10 (by decide)
        have c11 := hc 11 (by decide)
        have hL := light_any r pa pc
        clear hc
        cases hb : lightB r
        · rw [hb] at hL
          have HL := Lib.hid hL
          have HZ := Lib.hid (HR.out.trans (HN.out hb))
          clear hL hb
          go_wp2_with (go_at_call 29; (refine (HL.out _).mono ?_); rintro e w1 ⟨rfl, hm⟩; have HM1 := Lib.hid (HM.out.trans hm); clear hm)
          go_ret
          exact ⟨by rw [HZ.out]; rfl, HM1.out⟩
        · rw [hb] at hL
          have HL := Lib.hid hL
          have HZ := Lib.hid (HG.out hb)
          clear hL hb
          go_wp2_with (go_at_call 29; (refine (HL.out _).mono ?_); rintro e w1 ⟨rfl, hm⟩; have HM1 := Lib.hid (HM.out.trans hm); clear hm)
          go_roundw
          case rel => exact ⟨k + 1, by go_num, by omega, HZ.out, HM1.out⟩
          case measure => simp [intOf]; omega
      · have hkl : k = rs.length := by omega
        have hall := HA.out
        rw [hkl, List.take_length] at hall
        have HZ := Lib.hid (HR.out.trans hall)
        clear hall
        go_wp2_with fail
        go_ret
        exact ⟨by rw [HZ.out]; rfl, HM.out⟩
end Go.Proofs.YtfcdapicemlfgaaDoor
