/- Memory: what a call may have turned (Mod), slices of bytes that are read (Cells8) and owned, append of whatever source. No program is named here. -/
import Derived.WalkKit
import Derived.ProofKit
import Derived.Deep.AppendSrc
import Derived.Lib.Hide
namespace Go.Proofs.YtfcdapicemlfgaaDoor
open Go Go.RowKit
set_option linter.unusedVariables false
set_option linter.unusedSimpArgs false

/-- Outside the blocks F the world w' is as w was. -/
structure Mod (F : List Nat) (w w' : World) : Prop where
  os : w'.os = w.os
  tape : w'.tape = w.tape
  output : w'.output = w.output
  size : w.heap.size ≤ w'.heap.size
  block : ∀ k, k < w.heap.size → k ∉ F → w'.heap[k]? = w.heap[k]?

theorem Mod.refl (F : List Nat) (w : World) : Mod F w w := ⟨rfl, rfl, rfl, Nat.le_refl _, fun _ _ _ => rfl⟩
theorem Mod.trans' {F G : List Nat} {a b c : World} (h : Mod F a b) (k : Mod G b c) (hG : ∀ x ∈ G, x ∈ F ∨ a.heap.size ≤ x) : Mod F a c :=
  ⟨k.os.trans h.os, k.tape.trans h.tape, k.output.trans h.output, Nat.le_trans h.size k.size, fun i hi hF =>
    (k.block i (Nat.lt_of_lt_of_le hi h.size) (fun hg => by rcases hG i hg with h1 | h1; exact hF h1; omega)).trans (h.block i hi hF)⟩
theorem Mod.trans {F : List Nat} {a b c : World} (h : Mod F a b) (k : Mod F b c) : Mod F a c := h.trans' k fun _ hx => Or.inl hx
theorem Mod.mono {F G : List Nat} {w w' : World} (h : Mod F w w') (hs : ∀ x ∈ F, x ∈ G ∨ w.heap.size ≤ x) : Mod G w w' :=
  ⟨h.os, h.tape, h.output, h.size, fun k hk hG => h.block k hk fun hF => by rcases hs k hF with h1 | h1; exact hG h1; omega⟩
theorem Mod.drew {F : List Nat} {a w : World} (h : Mod F a w) : Mod F a w.drew := ⟨h.os, h.tape, h.output, h.size, h.block⟩
theorem Mod.alloc {F : List Nat} {a w : World} (h : Mod F a w) (o : Obj) : Mod F a (w.alloc o) :=
  h.trans ⟨rfl, rfl, rfl, by simp, fun k hk _ => heap_alloc_old w o hk⟩
theorem Mod.setCell {F : List Nat} {a w : World} (h : Mod F a w) {p : Addr} (hp : p.block ∈ F ∨ a.heap.size ≤ p.block) (u : Value) : Mod F a (w.setCell p u) :=
  h.trans' (G := [p.block]) ⟨rfl, rfl, rfl, by simp, fun k _ hk => heap_setCell_other w p k u (by simpa using hk)⟩ (by intro x hx; simp at hx; subst hx; exact hp)
theorem Mod.ofGrown {w w' : World} {row : Option Nat} (h : w.grownBy w' row) : Mod row.toList w w' :=
  ⟨h.os, h.tape, h.output, h.size, fun k hk hr => h.block k hk fun e => hr (by simp [← e])⟩
theorem Mod.ofBelow {w w' : World} (h : Below w.heap.size w w') : Mod [] w w' := ⟨h.os, h.tape, h.output, h.size, fun k hk _ => h.block k hk⟩
theorem Mod.toBelow {F : List Nat} {w w' : World} (h : Mod F w w') {B : Nat} (hB : B ≤ w.heap.size) (hF : ∀ x ∈ F, B ≤ x) : Below B w w' :=
  ⟨h.os, h.tape, h.output, h.size, fun k hk => h.block k (by omega) fun hx => by have := hF k hx; omega⟩
theorem Mod.cell {F : List Nat} {w w' : World} (h : Mod F w w') {p : Addr} {v : Value} (hc : w.cell? p = some v) (hp : p.block ∉ F) : w'.cell? p = some v :=
  (World.cell?_of_block (h.block p.block (World.block_lt_of_cell? w p hc) hp)).trans hc
theorem Mod.row {F : List Nat} {w w' : World} (h : Mod F w w') {k : Nat} {o : Obj} (hc : w.heap[k]? = some o) (hp : k ∉ F) : w'.heap[k]? = some o :=
  (h.block k (Array.getElem?_eq_some_iff.1 hc).1 hp).trans hc
theorem Mod.owns {F : List Nat} {w w' : World} {base : Nat} {e : TypeId} {size : Nat} {v : Value} {n : Nat} {xs : List Value} (h : Mod F w w') (ho : w.ownsRow base e size v n xs) (hp : ∀ k, v.ownBlock = some k → k ∉ F) : w'.ownsRow base e size v n xs := by
  refine ⟨ho.1, ?_⟩
  rcases ho.2 with hn | ⟨g, cap, cur, rfl, hb, hg, rest⟩
  · exact .inl hn
  · exact .inr ⟨g, cap, cur, rfl, hb, h.row hg (hp g rfl), rest⟩

/-- bytes: numbers below 256 -/
def Bytes (l : List Int) : Prop := ∀ x ∈ l, 0 ≤ x ∧ x < 256
theorem Bytes.nil : Bytes [] := fun _ h => by cases h
theorem Bytes.append {a b : List Int} (h : Bytes a) (k : Bytes b) : Bytes (a ++ b) := fun x hx => by
  rcases List.mem_append.1 hx with h1 | h1
  · exact h x h1
  · exact k x h1
theorem Bytes.take {a : List Int} (h : Bytes a) (n : Nat) : Bytes (a.take n) := fun x hx => h x (List.mem_of_mem_take hx)
theorem Bytes.drop {a : List Int} (h : Bytes a) (n : Nat) : Bytes (a.drop n) := fun x hx => h x (List.mem_of_mem_drop hx)
theorem Bytes.reverse {l : List Int} (h : Bytes l) : Bytes l.reverse := fun x hx => h x (by simpa using hx)
theorem Bytes.getD {l : List Int} (h : Bytes l) (i : Nat) : 0 ≤ l.getD i 0 ∧ l.getD i 0 < 256 := by
  by_cases hi : i < l.length
  · have e : l.getD i 0 = l[i] := by simp [List.getD, hi]
    rw [e]; exact h _ (List.getElem_mem hi)
  · have e : l.getD i 0 = 0 := by simp [List.getD, Nat.le_of_not_lt hi]
    rw [e]; omega

abbrev u8s (l : List Int) : List Value := l.map (Value.int .u8)
theorem u8s_set (l : List Int) (j : Nat) (x : Int) : u8s (l.set j x) = (u8s l).set j (.int .u8 x) := List.map_set
theorem u8s_append (l r : List Int) : u8s (l ++ r) = u8s l ++ u8s r := List.map_append

/-- at the address a stand the bytes l -/
def Cells8 (w : World) (a : Option Addr) (l : List Int) : Prop :=
  Bytes l ∧ (l = [] ∨ ∃ b o, a = some ⟨b, o, none⟩ ∧ ∀ i, i < l.length → w.cell? ⟨b, o + i, none⟩ = some (.int .u8 (l.getD i 0)))

def blocks (a : Option Addr) : List Nat := match a with | some x => [x.block] | none => []

theorem Cells8.nil (w : World) (a : Option Addr) : Cells8 w a [] := ⟨Bytes.nil, .inl rfl⟩
theorem Cells8.mod {F : List Nat} {w w' : World} {a : Option Addr} {l : List Int} (hm : Mod F w w') (h : Cells8 w a l) (hp : ∀ x, a = some x → x.block ∉ F) : Cells8 w' a l := by
  refine ⟨h.1, ?_⟩
  rcases h.2 with h1 | ⟨b, o, rfl, hc⟩
  · exact .inl h1
  · exact .inr ⟨b, o, rfl, fun i hi => hm.cell (hc i hi) (hp ⟨b, o, none⟩ rfl)⟩
theorem Cells8.below {w w' : World} {a : Option Addr} {l : List Int} {B : Nat} (hm : Below B w w') (h : Cells8 w a l) (hp : ∀ x, a = some x → x.block < B) : Cells8 w' a l := by
  refine ⟨h.1, ?_⟩
  rcases h.2 with h1 | ⟨b, o, rfl, hc⟩
  · exact .inl h1
  · exact .inr ⟨b, o, rfl, fun i hi => (hm.cell (p := ⟨b, o + i, none⟩) (hp ⟨b, o, none⟩ rfl)).trans (hc i hi)⟩
/-- what stood when the call began stands still -/
theorem Cells8.old {w w' : World} {a : Option Addr} {l : List Int} (hm : Below w.heap.size w w') (h : Cells8 w a l) : Cells8 w' a l := by
  refine ⟨h.1, ?_⟩
  rcases h.2 with h1 | ⟨b, o, rfl, hc⟩
  · exact .inl h1
  · exact .inr ⟨b, o, rfl, fun i hi => (hm.cell (World.block_lt_of_cell? w _ (hc i hi))).trans (hc i hi)⟩
theorem Cells8.at {w : World} {b o : Nat} {l : List Int} (h : Cells8 w (some ⟨b, o, none⟩) l) (i : Nat) (hi : i < l.length) : w.cell? ⟨b, o + i, none⟩ = some (.int .u8 (l.getD i 0)) := by
  rcases h.2 with rfl | ⟨b', o', he, hc⟩
  · simp at hi
  · simp only [Option.some.injEq, Addr.mk.injEq, and_true] at he
    obtain ⟨rfl, rfl⟩ := he
    exact hc i hi
/-- where something stands, the address is written out -/
theorem Cells8.addr {w : World} {a : Option Addr} {l : List Int} (h : Cells8 w a l) (hl : 0 < l.length) : ∃ b o, a = some ⟨b, o, none⟩ ∧ b < w.heap.size := by
  rcases h.2 with rfl | ⟨b, o, rfl, hc⟩
  · simp at hl
  · exact ⟨b, o, rfl, World.block_lt_of_cell? w _ (hc 0 hl)⟩
theorem Cells8.take {w : World} {a : Option Addr} {l : List Int} (h : Cells8 w a l) (n : Nat) : Cells8 w a (l.take n) := by
  refine ⟨h.1.take n, ?_⟩
  rcases h.2 with rfl | ⟨b, o, rfl, hc⟩
  · left; simp
  · refine .inr ⟨b, o, rfl, fun i hi => ?_⟩
    simp only [List.length_take] at hi
    rw [hc i (by omega)]
    simp [List.getD, List.getElem?_take, show i < n by omega]
theorem Cells8.drop {w : World} {b o : Nat} {l : List Int} (h : Cells8 w (some ⟨b, o, none⟩) l) (n : Nat) : Cells8 w (some ⟨b, o + n, none⟩) (l.drop n) := by
  refine ⟨h.1.drop n, ?_⟩
  by_cases hn : n < l.length
  · refine .inr ⟨b, o + n, rfl, fun i hi => ?_⟩
    simp only [List.length_drop] at hi
    rw [Nat.add_assoc, h.at (n + i) (by omega)]
    simp [List.getD, List.getElem?_drop]
  · left; simp; omega
theorem Cells8.ofOwns {w : World} {base : Nat} {e : TypeId} {a : Option Addr} {n cap : Nat} {l : List Int} (hb : Bytes l) (h : w.ownsRow base e 1 (.slice a n cap) n (u8s l)) : Cells8 w a l := by
  refine ⟨hb, ?_⟩
  have hl : l.length = n := by simpa using h.1
  rcases h.2 with ⟨he, hn⟩ | ⟨g, c, cur, hv, _⟩
  · left; exact List.eq_nil_of_length_eq_zero (by omega)
  · simp only [Value.slice.injEq] at hv
    obtain ⟨rfl, _, rfl⟩ := hv
    refine .inr ⟨g, 0, rfl, fun i hi => ?_⟩
    rw [Nat.zero_add, h.cellAt i (by omega)]
    simp [List.getD, hi]

theorem owns_shape {w : World} {base : Nat} {e : TypeId} {size : Nat} {v : Value} {n : Nat} {xs : List Value} (h : w.ownsRow base e size v n xs) : ∃ a cap, v = .slice a n cap ∧ v.ownBlock = a.map (·.block) ∧ cap ≤ maxLen := by
  rcases h.2 with ⟨rfl, rfl⟩ | ⟨g, cap, cur, rfl, _, _, _, hm, _⟩
  · exact ⟨none, 0, rfl, rfl, by simp [maxLen]⟩
  · exact ⟨_, cap, rfl, rfl, hm⟩
theorem owns_rebase {w : World} {base B : Nat} {e : TypeId} {size : Nat} {v : Value} {n : Nat} {xs : List Value} (h : w.ownsRow base e size v n xs) (hB : ∀ k, v.ownBlock = some k → B ≤ k) : w.ownsRow B e size v n xs := by
  refine ⟨h.1, ?_⟩
  rcases h.2 with hn | ⟨g, cap, cur, rfl, _, r⟩
  · exact .inl hn
  · exact .inr ⟨g, cap, cur, rfl, hB g rfl, r⟩
theorem owns_lt {w : World} {base : Nat} {e : TypeId} {size : Nat} {v : Value} {n : Nat} {xs : List Value} (h : w.ownsRow base e size v n xs) {k : Nat} (hk : v.ownBlock = some k) : base ≤ k ∧ k < w.heap.size := h.lt k hk

/-- a slice of bytes that came in -/
theorem row8 {w : World} {y : Addr} {len cap : Nat} {zs : List Int} (h1 : len ≤ cap) (h2 : cap ≤ maxLen) (h3 : zs.length = cap) (h4 : ∀ i, i < zs.length → w.cell? (y.add i) = some (.int .u8 (zs.getD i 0))) (h5 : ∀ n ∈ zs, (Lit.int .u8 n).wf = true) :
    ∃ l, Cells8 w (some y) l ∧ len = l.length ∧ l.length ≤ 9223372036854775807 := by
  have hlen : (zs.take len).length = len := by simp; omega
  have hm : maxLen = 9223372036854775807 := rfl
  refine ⟨zs.take len, ⟨?_, ?_⟩, hlen.symm, by omega⟩
  · intro x hx
    have := h5 x (List.mem_of_mem_take hx)
    have hb : 0 ≤ x ∧ x ≤ 255 := by simpa [Lit.wf, IntKind.min, IntKind.max, IntKind.signed, IntKind.bits] using this
    omega
  · by_cases h0 : len = 0
    · left; subst h0; simp
    · right
      obtain ⟨b, o, spot⟩ := y
      have hc := h4 0 (by omega)
      have hspot : spot = none := by simpa [Addr.add] using World.cell?_spot hc
      subst hspot
      refine ⟨b, o, rfl, fun i hi => ?_⟩
      rw [hlen] at hi
      have := h4 i (by omega)
      rw [Addr.add_lit] at this
      rw [this]
      simp [List.getD, List.getElem?_take, hi]

theorem run_str {P : Program} {w : World} {a : Option Addr} {l : List Int} (h : Cells8 w a l) (src dst e : TypeId) (n cap : Nat) (hs : P.underlying src = some (.slice e)) (he : P.underlying e = some (.int .u8)) (hd : P.underlying dst = some .string) (hn : n = l.length) :
    (convert src dst (.slice a n cap)).run P w = .ok (.string (strOfNums l)) w := by
  subst hn
  rcases h.2 with rfl | ⟨b, o, rfl, hc⟩
  · rw [run_convert_bytes_string w src dst e _ _ cap hs he hd]
    cases a with
    | none => simp [Conv.bytesToString, strOfNums]; rfl
    | some x => exact run_bytesToString (P := P) w x 0 cap [] (by simp [loadCells, loadCellsFrom])
  · exact run_convert_bytes_arg w src e hs he b o l.length cap l rfl hc dst hd

/-- a text's bytes as numbers -/
def nums (s : ByteArray) : List Int := s.data.toList.map fun b => (b.toNat : Int)
theorem nums_length (s : ByteArray) : (nums s).length = s.size := by
  unfold nums; rw [List.length_map, Array.length_toList]; rfl
theorem nums_bytes (s : ByteArray) : Bytes (nums s) := by
  intro x hx
  obtain ⟨b, _, rfl⟩ := List.mem_map.1 hx
  have := b.toNat_lt
  omega
theorem byteCells_eq (s : ByteArray) : byteCells s = u8s (nums s) := by simp [byteCells, nums]
theorem strOfNums_nums (s : ByteArray) : strOfNums (nums s) = s := by
  have : (nums s).map (fun n => UInt8.ofNat n.toNat) = s.data.toList := by
    simp only [nums, List.map_map]
    conv => rhs; rw [← List.map_id s.data.toList]
    apply List.map_congr_left
    intro b _
    simp
  unfold strOfNums
  rw [this]
theorem nums_strOfNums {l : List Int} (h : Bytes l) : nums (strOfNums l) = l := by
  unfold nums
  rw [strOfNums_data, List.map_map]
  conv => rhs; rw [← List.map_id l]
  apply List.map_congr_left
  intro x hx
  have := h x hx
  simp
  omega
theorem strOfNums_inj {a b : List Int} (ha : Bytes a) (hb : Bytes b) : strOfNums a = strOfNums b ↔ a = b :=
  ⟨fun h => by rw [← nums_strOfNums ha, h, nums_strOfNums hb], fun h => by rw [h]⟩

/-- a text turned into bytes: new memory -/
theorem conv_bytes {P : Program} (w : World) (src dst e : TypeId) (s : ByteArray) (hs : P.underlying src = some .string) (hd : P.underlying dst = some (.slice e)) (he : P.underlying e = some (.int .u8)) :
    ∃ a cap w', (convert src dst (.string s)).run P w = .ok (.slice a s.size cap) w' ∧ Cells8 w' a (nums s) ∧ Mod [] w w' ∧ (∀ x, a = some x → w.heap.size ≤ x.block) ∧ s.size ≤ cap ∧ cap ≤ grownCap w s.size 0 e := by
  refine ⟨_, _, _, run_bytes_of_string w src dst e s hs hd he, ⟨nums_bytes s, .inr ⟨w.heap.size, 0, rfl, fun i hi => ?_⟩⟩, ?_, by simp, grownCap_ge w s.size 0 e, Nat.le_refl _⟩
  · have hsz : s.data.size = s.size := rfl
    have hi' : i < s.data.size := by rw [nums_length] at hi; omega
    have hrow : (w.drew.alloc (.cells (bytesRow s (grownCap w s.size 0 e)) e ((bytesRow s (grownCap w s.size 0 e)).size, (bytesRow s (grownCap w s.size 0 e)).size + 1))).heap[w.heap.size]? = some (.cells (bytesRow s (grownCap w s.size 0 e)) e ((bytesRow s (grownCap w s.size 0 e)).size, (bytesRow s (grownCap w s.size 0 e)).size + 1)) := heap_alloc_new w.drew _
    rw [Nat.zero_add, cell_of_row _ _ _ _ _ _ hrow, bytesRow_at s _ i hi']
    simp [nums, List.getD, Array.getElem?_eq_getElem hi']
  · exact ((Mod.refl [] w).drew).alloc _

theorem Src.of8 {P : Program} {w : World} {a : Option Addr} {l : List Int} (h : Cells8 w a l) {tx e : TypeId} (hk : P.underlying tx = some (.slice e)) (n cap : Nat) (hn : n = l.length) : Src P 1 tx (.slice a n cap) n (u8s l) w := by
  subst hn
  have h1 : ∀ u ∈ u8s l, u.oneCell' = true := ints_oneCell .u8 l
  rcases h.2 with rfl | ⟨b, o, rfl, hc⟩
  · cases a with
    | none => exact Src.ofNil w hk cap
    | some x => exact Src.ofSlice w hk x 0 cap [] (by simp) (by intro j u hu; simp at hu) (fun _ h => by cases h)
  · refine Src.ofSlice w hk _ _ _ (u8s l) (by simp) ?_ h1
    intro j u hu
    have hj : j < l.length := by
      have := (List.getElem?_eq_some_iff.1 hu).1
      simpa using this
    rw [Addr.add_lit, hc j hj]
    simp [hj] at hu
    subst hu
    simp [List.getD, hj]

section
variable {P : Program} (w : World)
/-- 'append(dst, src...)' onto a slice of the call's own, whatever the source. -/
theorem run_append_src (base : Nat) (t tx ty e : TypeId) (i : TypeInfo) (z : Value) (size bytes : Nat) (ht : P.underlying t = some (.slice e)) (hi : P.info? e = some i) (hz : i.zero = some z)
    (hsize : i.size = size) (hby : i.bytes = bytes) (hzs : z.cells.size = size)
    (v : Value) (n : Nat) (xs : List Value) (hown : w.ownsRow base e size v n xs) (x : Value) (m : Nat) (news : List Value) (hs : Src P size tx x m news w)
    (h63 : n + m ≤ maxLen) (hbytes : (n + m) * bytes ≤ 140737488355328) (hbase : base ≤ w.heap.size) :
    ∃ v' w', (Builtin.append_ #[t, tx] ty #[v, x]).run P w = .ok v' w' ∧ w'.ownsRow base e size v' (n + m) (xs ++ news) ∧ w.grownBy w' v.ownBlock ∧
      (v'.ownBlock = v.ownBlock ∨ v'.ownBlock = some w.heap.size) := by
  subst hsize
  subst hby
  have hsmall : n + m ≤ 9223372036854775807 := by simp only [maxLen] at h63; omega
  have hlen : (xs ++ news).length = (n + m) * i.size := by rw [List.length_append, hown.1, hs.newsLen, Nat.add_mul]
  have grown : ∀ (old : Nat), old < n + m → ∀ (row : Option Nat),
      (w.drew.alloc (.cells ((xs ++ news).toArray ++ Builtin.zeroCells z.cells (grownCap w (n + m) old e - (n + m))) e)).ownsRow base e i.size
        (.slice (some ⟨w.heap.size, 0, none⟩) (n + m) (grownCap w (n + m) old e)) (n + m) (xs ++ news) ∧
      w.grownBy (w.drew.alloc (.cells ((xs ++ news).toArray ++ Builtin.zeroCells z.cells (grownCap w (n + m) old e - (n + m))) e)) row := by
    intro old ho row
    have hge := grownCap_ge w (n + m) old e
    have hcm : grownCap w (n + m) old e ≤ maxLen := grownCap_le_maxLen w (n + m) old e h63
    refine ⟨⟨hlen, .inr ⟨w.heap.size, _, _, rfl, hbase, heap_alloc_new w.drew _, hge, hcm, ?_, ?_⟩⟩, ⟨rfl, rfl, rfl, by simp, fun k hk _ => heap_alloc_old w.drew _ hk⟩⟩
    · simp only [Array.size_append, List.size_toArray, size_zeroCells, hzs, hlen, ← Nat.add_mul]
      congr 1
      omega
    · simp only [Array.toList_append]
      rw [← hlen]
      exact List.take_left
  rcases hown.2 with ⟨rfl, rfl⟩ | ⟨g, cap, cur, rfl, hbg, hg, hnc, hcm, hcs, htake⟩
  · have hx : xs = [] := List.eq_nil_of_length_eq_zero (by simpa using hown.1)
    subst hx
    by_cases hm : m = 0
    · subst hm
      have hn : news = [] := List.eq_nil_of_length_eq_zero (by simpa using hs.newsLen)
      subst hn
      refine ⟨.slice none 0 0, w, ?_, World.ownsRow_nil w base e i.size, ⟨rfl, rfl, rfl, Nat.le_refl _, fun _ _ _ => rfl⟩, Or.inl rfl⟩
      have hl0 : ∀ w' : World, (Builtin.lenOf (.slice none 0 0)).run P w' = .ok 0 w' := fun _ => rfl
      rcases hs.kind with ⟨e', hk⟩ | hk <;>
        simp [Builtin.append_, run_underlying ht, run_underlying hk, sizeOf, typeInfo, hi, hs.len, hs.cells, run_firstCells_none, hl0]
    · have hr := run_append_grow_src (P := P) w t tx ty e i z ht hi hz none 0 0 [] (run_firstCells_none w.drew i.size 0 0 0) x m news hs (by omega) (by omega)
        (growslice_fits (by omega) (by simpa using hbytes))
      have hgr := grown 0 (by omega) (Value.ownBlock (.slice none 0 0))
      simp only [Nat.zero_add, List.nil_append] at hgr hr ⊢
      exact ⟨_, _, hr, hgr.1, hgr.2, Or.inr rfl⟩
  · by_cases hroom : n + m ≤ cap
    · have hfit : n * i.size + news.length ≤ cur.size := by rw [hs.newsLen, hcs, ← Nat.add_mul]; exact Nat.mul_le_mul_right _ hroom
      have hst := run_storeCells_at P g (n * i.size) e news 0 cur w hg (by simpa using hfit) hs.one
      simp only [Nat.add_zero] at hst
      have hr : (Builtin.append_ #[t, tx] ty #[.slice (some ⟨g, 0, none⟩) n cap, x]).run P w =
          .ok (.slice (some ⟨g, 0, none⟩) (n + m) cap) (w.setRow g (cur.toList.take (n * i.size) ++ news ++ cur.toList.drop (n * i.size + news.length)).toArray) := by
        rcases hs.kind with ⟨e', hk⟩ | hk <;> simp [Builtin.append_, run_underlying ht, run_underlying hk, sizeOf, typeInfo, hi, hs.len, hroom, hs.cells, Addr.add_lit, hst]
      refine ⟨_, _, hr, ⟨hlen, .inr ⟨g, cap, _, rfl, hbg, setRow_heap w g cur _ e _ hg, hroom, hcm, ?_, ?_⟩⟩, ⟨rfl, rfl, rfl, by simp, fun k _ hk => setRow_other w g k _ (fun e => hk (by simp [Value.ownBlock, e]))⟩, Or.inl rfl⟩
      · simp only [List.size_toArray, List.length_append, List.length_take, List.length_drop, Array.length_toList]
        omega
      · rw [htake, ← hlen]
        exact List.take_left
    · have holds : ∀ j u, xs[j]? = some u → w.drew.cell? ((⟨g, 0, none⟩ : Addr).add j) = some u := hown.cells (g := g) rfl
      have hr := run_append_grow_src (P := P) w t tx ty e i z ht hi hz (some ⟨g, 0, none⟩) n cap xs (run_firstCells_some w.drew i.size n ⟨g, 0, none⟩ n cap xs hown.1 holds) x m news hs (by omega) (by omega) (growslice_fits (by omega) hbytes)
      have hgr := grown cap (by omega) (Value.ownBlock (.slice (some ⟨g, 0, none⟩) n cap))
      exact ⟨_, _, hr, hgr.1, hgr.2, Or.inr rfl⟩

theorem wpList_append_src {ops : Array Oper} {rest : List Oper} {o : Oper} {a : Act} {Q : Exit → Act → World → Prop} (hgd : o.guard = none) (s x : Operand) (t tx : TypeId)
    (ho : o.op = .call { callee := .builtin .append, args := #[s, x], argTypes := #[t, tx] })
    (base : Nat) (e : TypeId) (i : TypeInfo) (z : Value) (size bytes : Nat) (ht : P.underlying t = some (.slice e)) (hi : P.info? e = some i) (hz : i.zero = some z)
    (hsize : i.size = size) (hby : i.bytes = bytes) (hzs : z.cells.size = size)
    (v : Value) (n : Nat) (xs : List Value) (hs : a.eval s = v) (hown : w.ownsRow base e size v n xs)
    (xv : Value) (m : Nat) (news : List Value) (hx : a.eval x = xv) (hsrc : Src P size tx xv m news w)
    (h63 : n + m ≤ maxLen) (hbytes : (n + m) * bytes ≤ 140737488355328) (hbase : base ≤ w.heap.size)
    (h : ∀ v' w', w'.ownsRow base e size v' (n + m) (xs ++ news) → w.grownBy w' v.ownBlock → (v'.ownBlock = v.ownBlock ∨ v'.ownBlock = some w.heap.size) → wpList P ops Q rest (a.put o.dst v') w') : wpList P ops Q (o :: rest) a w := by
  refine wpList_plain hgd fun K hK => ?_
  obtain ⟨v', w', hr, h2, h3, h4⟩ := run_append_src (P := P) w base t tx o.type e i z size bytes ht hi hz hsize hby hzs v n xs hown xv m news hsrc h63 hbytes hbase
  unfold Oper.wp execOp
  simp only [ho, resolve, invoke, builtin, Sem.run_bind, Sem.run_pure, Result.andThen_ok, List.map_toArray, List.map_cons, List.map_nil, hs, hx, hr]
  exact hK _ _ (h v' w' h2 h3 h4)

end

/-- what an append leaves: the bytes l' are owned by the value v'; outside the elder row the world is as it was -/
structure Grew (e : TypeId) (w : World) (v : Value) (l' : List Int) (v' : Value) (w' : World) : Prop where
  own : w'.ownsRow 0 e 1 v' l'.length (u8s l')
  mod : Mod v.ownBlock.toList w w'
  blk : v'.ownBlock = v.ownBlock ∨ v'.ownBlock = some w.heap.size
theorem Grew.shape {e : TypeId} {w : World} {v : Value} {l' : List Int} {v' : Value} {w' : World} (h : Grew e w v l' v' w') : ∃ a cap, v' = .slice a l'.length cap := by
  obtain ⟨a, cap, h, _⟩ := owns_shape h.own
  exact ⟨a, cap, h⟩
theorem Grew.shape' {e : TypeId} {w : World} {v : Value} {l' : List Int} {v' : Value} {w' : World} (h : Grew e w v l' v' w') : ∃ a n cap, v' = .slice a n cap := by
  obtain ⟨a, cap, h⟩ := h.shape
  exact ⟨a, _, cap, h⟩
/-- all that is owned from B on stays so -/
theorem Grew.since {e : TypeId} {w : World} {v : Value} {l' : List Int} {v' : Value} {w' : World} (h : Grew e w v l' v' w') {B : Nat} (hB : B ≤ w.heap.size) (hv : ∀ k, v.ownBlock = some k → B ≤ k) :
    w'.ownsRow B e 1 v' l'.length (u8s l') ∧ Below B w w' := by
  refine ⟨owns_rebase h.own ?_, h.mod.toBelow hB (fun x hx => hv x (by simpa using hx))⟩
  intro k hk
  rcases h.blk with h1 | h1
  · exact hv k (by rw [← h1, hk])
  · rw [hk] at h1; simp at h1; omega

/-- the same for bytes -/
theorem wpList_append8 {P : Program} (w : World) {ops : Array Oper} {rest : List Oper} {o : Oper} {a : Act} {Q : Exit → Act → World → Prop} (hgd : o.guard = none) (s x : Operand) (t tx : TypeId)
    (ho : o.op = .call { callee := .builtin .append, args := #[s, x], argTypes := #[t, tx] })
    (e : TypeId) (ht : P.underlying t = some (.slice e)) (hi : (P.info? e).map (fun i => (i.zero, i.size, i.bytes)) = some (some (.int .u8 0), 1, 1))
    (v : Value) (l : List Int) (hs : a.eval s = v) (hown : w.ownsRow 0 e 1 v l.length (u8s l))
    (xv : Value) (m : Nat) (r : List Int) (hx : a.eval x = xv) (hsrc : Src P 1 tx xv m (u8s r) w) (h63 : l.length + r.length ≤ 140737488355328) (l' : List Int) (hl' : l' = l ++ r)
    (h : ∀ v' w', Grew e w v l' v' w' → wpList P ops Q rest (a.put o.dst v') w') : wpList P ops Q (o :: rest) a w := by
  obtain ⟨i, hi1, hi2, hi3, hi4⟩ := info_parts hi
  have hm : r.length = m := by simpa using hsrc.newsLen
  subst hm
  subst hl'
  refine wpList_append_src w hgd s x t tx ho 0 e i _ 1 1 ht hi1 hi2 hi3 hi4 rfl v _ _ hs hown xv _ _ hx hsrc (by simp only [maxLen]; omega) (by omega) (Nat.zero_le _) ?_
  intro v' w' h1 h2 h3
  exact h v' w' ⟨by simpa using h1, Mod.ofGrown h2, h3⟩
end Go.Proofs.YtfcdapicemlfgaaDoor
