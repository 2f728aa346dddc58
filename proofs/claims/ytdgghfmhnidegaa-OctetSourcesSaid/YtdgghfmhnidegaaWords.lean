/- The words of layer 1's statements as they come in: a slice of structs of five cells. -/
import Derived.Test.YtdgghfmhnidegaaOctI
import Derived.Test.YtdgghfmhnidegaaFields
namespace Go.Proofs.Ytdgghfmhnidegaa
open Go.ChangeShapes Go.WideShapes Go.ChangeAt Go.RowKit
set_option linter.unusedVariables false
set_option linter.unusedSimpArgs false

structure Wd where
  kind : Int
  k : Int
  n : Int
  v : Int
  s : ByteArray

structure Wd.ok (x : Wd) : Prop where
  k0 : -9223372036854775808 ≤ x.kind
  k1 : x.kind ≤ 9223372036854775807
  kk0 : -9223372036854775808 ≤ x.k
  kk1 : x.k ≤ 9223372036854775807
  n0 : -9223372036854775808 ≤ x.n
  n1 : x.n ≤ 9223372036854775807
  v0 : 0 ≤ x.v
  v1 : x.v < 18446744073709551616
  s1 : x.s.size ≤ 9223372036854775807

instance : Inhabited Wd := ⟨⟨0, 0, 0, 0, ByteArray.empty⟩⟩

/-- at the address a stand the words l -/
def Words (w : World) (a : Option Addr) (l : List Wd) : Prop :=
  (∀ x ∈ l, x.ok) ∧ (l = [] ∨ ∃ b o, a = some ⟨b, o, none⟩ ∧ ∀ i, i < l.length →
    w.cell? ⟨b, o + i * 5, none⟩ = some (.int .i64 (l.getD i default).kind) ∧ w.cell? ⟨b, o + i * 5 + 1, none⟩ = some (.int .i64 (l.getD i default).k) ∧ w.cell? ⟨b, o + i * 5 + 2, none⟩ = some (.int .i64 (l.getD i default).n) ∧
    w.cell? ⟨b, o + i * 5 + 3, none⟩ = some (.int .u64 (l.getD i default).v) ∧ w.cell? ⟨b, o + i * 5 + 4, none⟩ = some (.string (l.getD i default).s))

theorem Words.old {w w' : World} {a : Option Addr} {l : List Wd} (hm : Below w.heap.size w w') (h : Words w a l) : Words w' a l := by
  refine ⟨h.1, ?_⟩
  rcases h.2 with h1 | ⟨b, o, rfl, hc⟩
  · exact .inl h1
  · refine .inr ⟨b, o, rfl, fun i hi => ?_⟩
    obtain ⟨c0, c1, c2, c3, c4⟩ := hc i hi
    have hb : b < w.heap.size := World.block_lt_of_cell? w _ c0
    have hk : ∀ (j : Nat) (v : Value), w.cell? ⟨b, j, none⟩ = some v → w'.cell? ⟨b, j, none⟩ = some v := fun j v hv => (hm.cell (p := ⟨b, j, none⟩) hb).trans hv
    exact ⟨hk _ _ c0, hk _ _ c1, hk _ _ c2, hk _ _ c3, hk _ _ c4⟩
/-- the five cells of a word -/
theorem Words.at {w : World} {a : Option Addr} {l : List Wd} (h : Words w a l) {n : Nat} (hn : n < l.length) : ∃ b o, a = some ⟨b, o, none⟩ ∧
    w.cell? ⟨b, o + n * 5, none⟩ = some (.int .i64 (l.getD n default).kind) ∧ w.cell? ⟨b, o + n * 5 + 1, none⟩ = some (.int .i64 (l.getD n default).k) ∧ w.cell? ⟨b, o + n * 5 + 2, none⟩ = some (.int .i64 (l.getD n default).n) ∧
    w.cell? ⟨b, o + n * 5 + 3, none⟩ = some (.int .u64 (l.getD n default).v) ∧ w.cell? ⟨b, o + n * 5 + 4, none⟩ = some (.string (l.getD n default).s) := by
  rcases h.2 with rfl | ⟨b, o, rfl, hc⟩
  · simp at hn
  · exact ⟨b, o, rfl, hc n hn⟩

def someB (l : List Wd) : Bool := decide (l.length ≤ 60) && l.all fun x => decide (x.s.size ≤ 300)

theorem getD_mem' {l : List Wd} {n : Nat} (h : n < l.length) : l.getD n default ∈ l := by
  have e : l.getD n default = l[n] := by simp [List.getD, h]
  rw [e]; exact List.getElem_mem h
theorem some_fail {l : List Wd} {n : Nat} (h : n < l.length) (h2 : 300 < (l.getD n default).s.size) : someB l = false := by
  rw [Bool.eq_false_iff]
  intro hs
  have := (by simpa [someB] using hs : l.length ≤ 60 ∧ ∀ x ∈ l, x.s.size ≤ 300).2 _ (getD_mem' h)
  omega
theorem some_iff {l : List Wd} : someB l = true ↔ l.length ≤ 60 ∧ ∀ x ∈ l, x.s.size ≤ 300 := by simp [someB]
theorem take_succ' {l : List Wd} {n : Nat} (h : n < l.length) : l.take (n + 1) = l.take n ++ [l.getD n default] := by
  rw [List.take_succ_eq_append_getElem h]; simp [List.getD, h]

theorem some_any (a : Option Addr) (cap n : Nat) (l : List Wd) (w : World) (hc : Words w a l) (hn : n = l.length) (hl : l.length ≤ 9223372036854775807) :
    Calls Try.prog 19 #[.slice a n cap] w fun e w' => e = .returned (.bool (someB l)) ∧ w = w' := by
  subst hn
  by_cases h60 : (60 : Int) < l.length
  · have hs : someB l = false := by simp [someB]; omega
    go_enter Try.func19, Try.ntmps19
    go_wp2
    go_ret
    simp [hs]
  have hl60 : l.length ≤ 60 := by omega
  have HW := Lib.hid hc
  clear hc
  go_enter Try.func19, Try.ntmps19
  go_wp2
  go_loop [3] (fun i => ∃ n : Nat, n ≤ l.length ∧ i = .int .i64 n ∧ ∀ x ∈ l.take n, x.s.size ≤ 300) (fun i => (l.length - intOf i).toNat)
  case atStart => exact ⟨0, by omega, rfl, by simp⟩
  case round =>
    obtain ⟨n, hn, rfl, hall⟩ := hrel
    have HA := Lib.hid hall
    clear hall
    by_cases hlt : n < l.length
    · obtain ⟨b, o, rfl, hcell⟩ : ∃ b o, a = some ⟨b, o, none⟩ ∧ ∀ i, i < l.length → _ := by
        rcases HW.out.2 with rfl | h
        · simp at hlt
        · exact h
      have h4 := (hcell n hlt).2.2.2.2
      have HF := Lib.hid (@some_fail l n hlt)
      have HT := Lib.hid (@take_succ' l n hlt)
      clear hcell
      generalize l.getD n default = x at *
      by_cases h300 : (300 : Int) < x.s.size
      · go_wp2
        go_ret
        exact ⟨ret_bool (HF.out (by omega)).symm, rfl⟩
      · go_wp2
        go_round
        case rel =>
          refine ⟨n + 1, by omega, by go_num, fun y hy => ?_⟩
          rw [HT.out] at hy
          rcases List.mem_append.1 hy with h | h
          · exact HA.out y h
          · simp at h; subst h; omega
        case measure => simp [intOf]; omega
    · go_wp2
      go_ret
      obtain rfl : n = l.length := by omega
      have := HA.out
      rw [List.take_length] at this
      exact ⟨ret_bool (some_iff.2 ⟨hl60, this⟩).symm, rfl⟩

section
variable {H : Type} {enc : TypeId × Value → H}
theorem wf_i64 {x : Int} (h : (Lit.int .i64 x).wf = true) : -9223372036854775808 ≤ x ∧ x ≤ 9223372036854775807 := by
  simpa [Lit.wf, IntKind.min, IntKind.max, IntKind.signed, IntKind.bits] using h
theorem wf_u64 {x : Int} (h : (Lit.int .u64 x).wf = true) : 0 ≤ x ∧ x ≤ 18446744073709551615 := by
  simpa [Lit.wf, IntKind.min, IntKind.max, IntKind.signed, IntKind.bits] using h
theorem open_words {W : World} {a : Option Addr} {len cap fuel : Nat} {x : DataW H × List MemPlace} (hf : DataW.trod enc Try.prog W 0 (fun _ => true) true fuel 34 [.slice a len cap] = some x) :
    ∃ l, Words W a l ∧ len = l.length ∧ l.length ≤ 9223372036854775807 := by
  rcases open_slice_fields Try.underlying34 Try.underlying39 (by kernel_rfl) (by kernel_rfl) hf with ⟨hcs, _⟩ | ⟨a', len', cap', m, D, Pl, hcs, _, hl, hm, hmm, _, hi⟩
  · simp at hcs
    obtain ⟨rfl, rfl, rfl⟩ := hcs
    exact ⟨[], ⟨by simp, .inl rfl⟩, rfl, by simp⟩
  · simp at hcs
    obtain ⟨rfl, rfl, rfl⟩ := hcs
    have hmx : maxLen = 9223372036854775807 := rfl
    have key : ∀ i, i < len → ∃ y : Wd, y.ok ∧ W.cell? (a'.add (i * 5)) = some (.int .i64 y.kind) ∧ W.cell? (a'.add (i * 5 + 1)) = some (.int .i64 y.k) ∧ W.cell? (a'.add (i * 5 + 2)) = some (.int .i64 y.n) ∧ W.cell? (a'.add (i * 5 + 3)) = some (.int .u64 y.v) ∧ W.cell? (a'.add (i * 5 + 4)) = some (.string y.s) := by
      intro i hil
      obtain ⟨ys, n, _, _, _, hfld⟩ := hi i (by simp at hmm; omega)
      obtain ⟨v0, y0, c0, _, t0⟩ := hfld 0 _ rfl
      obtain ⟨v1, y1, c1, _, t1⟩ := hfld 1 _ rfl
      obtain ⟨v2, y2, c2, _, t2⟩ := hfld 2 _ rfl
      obtain ⟨v3, y3, c3, _, t3⟩ := hfld 3 _ rfl
      obtain ⟨v4, y4, c4, _, t4⟩ := hfld 4 _ rfl
      obtain ⟨z0, e0, _, b0⟩ := DataW.trod_int Try.underlying3 t0
      obtain ⟨z1, e1, _, b1⟩ := DataW.trod_int Try.underlying3 t1
      obtain ⟨z2, e2, _, b2⟩ := DataW.trod_int Try.underlying3 t2
      obtain ⟨z3, e3, _, b3⟩ := DataW.trod_int Try.underlying22 t3
      obtain ⟨z4, e4, _, b4⟩ := DataW.trod_string Try.underlying9 t4
      simp only [List.cons.injEq, and_true] at e0 e1 e2 e3 e4
      subst e0 e1 e2 e3 e4
      have g0 := wf_i64 b0
      have g1 := wf_i64 b1
      have g2 := wf_i64 b2
      have g3 := wf_u64 b3
      exact ⟨⟨z0, z1, z2, z3, z4⟩, ⟨g0.1, g0.2, g1.1, g1.2, g2.1, g2.2, g3.1, by show z3 < _; omega, by show z4.size ≤ _; omega⟩, c0, c1, c2, c3, c4⟩
    obtain ⟨f, hfi⟩ := Go.Deep.choose_lt key
    have hget : ∀ i, i < len → ((List.range len).map f).getD i default = f i := by
      intro i hi; simp [List.getD, hi]
    refine ⟨(List.range len).map f, ⟨?_, ?_⟩, by simp, by simp; omega⟩
    · intro y hy
      obtain ⟨i, hi, rfl⟩ := List.mem_map.1 hy
      exact (hfi i (by simpa using hi)).1
    · by_cases h0 : len = 0
      · left; subst h0; rfl
      · right
        obtain ⟨b, o, spot⟩ := a'
        have hc0 := (hfi 0 (by omega)).2.1
        have hspot : spot = none := by simpa [Addr.add] using World.cell?_spot hc0
        subst hspot
        refine ⟨b, o, rfl, fun i hi => ?_⟩
        have hi' : i < len := by simpa using hi
        rw [hget i hi']
        obtain ⟨_, c0, c1, c2, c3, c4⟩ := hfi i hi'
        rw [Addr.add_lit] at c0 c1 c2 c3 c4
        exact ⟨c0, c1, c2, c3, c4⟩
end
end Go.Proofs.Ytdgghfmhnidegaa
