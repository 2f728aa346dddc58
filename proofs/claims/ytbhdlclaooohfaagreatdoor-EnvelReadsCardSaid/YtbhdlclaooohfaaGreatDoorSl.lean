import Derived.Test.YtbhdlclaooohfaaGreatDoorBlk
/- 'append(b, make([]T, n)...)' onto a slice of the call's own: noughts behind it. No program is named here. -/
namespace Go.Proofs.YtbhdlclaooohfaaGreatDoor
open Go.ChangeShapes Go.WideShapes Go.ChangeAt Go.RowKit
set_option linter.unusedVariables false
set_option linter.unusedSimpArgs false

theorem zeroCells_one (z : Value) (m : Nat) : (Builtin.zeroCells #[z] m).toList = List.replicate m z := by
  unfold Builtin.zeroCells
  apply List.ext_getElem
  · simp
  · intro i h1 h2
    simp at h1 h2 ⊢
    rw [Nat.mod_one]
    rfl
theorem wrap_nat {m : Nat} (h : m ≤ 9223372036854775807) : IntKind.i64.wrap (m : Int) = (m : Int) := by rw [IntKind.wrap_i64]; omega
section
variable {P : Program} (w : World)
theorem run_append_zeros (base : Nat) (t tx ty e : TypeId) (i : TypeInfo) (z : Value) (bytes : Nat) (ht : P.underlying t = some (.slice e)) (htx : P.underlying tx = some (.int .i64)) (hi : P.info? e = some i) (hz : i.zero = some z)
    (hsize : i.size = 1) (hby : i.bytes = bytes) (hzc : z.cells = #[z]) (hz1 : z.oneCell' = true)
    (v : Value) (n : Nat) (xs : List Value) (hown : w.ownsRow base e 1 v n xs) (m : Nat) (hm : 0 < m)
    (h63 : n + m ≤ 9223372036854775807) (hbytes : (n + m) * bytes ≤ 140737488355328) (hbase : base ≤ w.heap.size) :
    ∃ v' w', (Builtin.append_ #[t, tx] ty #[v, .int .i64 m]).run P w = .ok v' w' ∧ w'.ownsRow base e 1 v' (n + m) (xs ++ List.replicate m z) ∧ w.grownBy w' v.ownBlock ∧
      (v'.ownBlock = v.ownBlock ∨ v'.ownBlock = some w.heap.size) := by
  subst hby
  have hwm := wrap_nat (m := m) (by omega)
  have hneg : ¬ ((m : Int) < 0) := by omega
  have hmb : (m : Int) * (i.bytes : Int) ≤ 281474976710656 := by
    have h1 : m * i.bytes ≤ (n + m) * i.bytes := Nat.mul_le_mul_right _ (by omega)
    have h2 : m * i.bytes ≤ 281474976710656 := by omega
    rw [← Int.natCast_mul]; omega
  have hm0 : m ≠ 0 := by omega
  have hai : ∀ W : World, (asIntOf (Value.int .i64 (m : Int))).run P W = .ok (.i64, (m : Int)) W := fun _ => rfl
  have hlen : (xs ++ List.replicate m z).length = (n + m) * 1 := by rw [List.length_append, hown.1, List.length_replicate, Nat.add_mul]; omega
  have hzl := zeroCells_one z m
  have hz1a : ∀ u ∈ List.replicate m z, u.oneCell' = true := fun u hu => by rw [(List.mem_replicate.1 hu).2]; exact hz1
  have grown : ∀ (old : Nat), old < n + m → ∀ (row : Option Nat),
      (w.drew.alloc (.cells ((xs ++ List.replicate m z).toArray ++ Builtin.zeroCells z.cells (grownCap w (n + m) old e - (n + m))) e)).ownsRow base e 1
        (.slice (some ⟨w.heap.size, 0, none⟩) (n + m) (grownCap w (n + m) old e)) (n + m) (xs ++ List.replicate m z) ∧
      w.grownBy (w.drew.alloc (.cells ((xs ++ List.replicate m z).toArray ++ Builtin.zeroCells z.cells (grownCap w (n + m) old e - (n + m))) e)) row := by
    intro old ho row
    have hge := grownCap_ge w (n + m) old e
    have hcm : grownCap w (n + m) old e ≤ maxLen := grownCap_le_maxLen w (n + m) old e (by simp only [maxLen]; omega)
    refine ⟨⟨hlen, .inr ⟨w.heap.size, _, _, rfl, hbase, heap_alloc_new w.drew _, hge, hcm, ?_, ?_⟩⟩, ⟨rfl, rfl, rfl, by simp, fun k hk _ => heap_alloc_old w.drew _ hk⟩⟩
    · simp only [Array.size_append, List.size_toArray, size_zeroCells, hzc, hlen]
      simp
      omega
    · simp only [Array.toList_append]
      rw [← hlen]
      exact List.take_left
  have hmul : ∀ k : Nat, k * 1 = k := fun k => Nat.mul_one k
  have hzA : Builtin.zeroCells #[z] m = (List.replicate m z).toArray := by apply Array.ext'; rw [hzl]
  have growR : ∀ (base' : Option Addr) (sCap : Nat), sCap < n + m → (Builtin.firstCells 1 n (.slice base' n sCap)).run P w.drew = .ok xs.toArray w.drew →
      (Builtin.append_ #[t, tx] ty #[.slice base' n sCap, .int .i64 m]).run P w = .ok (.slice (some ⟨w.heap.size, 0, none⟩) (n + m) (grownCap w (n + m) sCap e))
        (w.drew.alloc (.cells ((xs ++ List.replicate m z).toArray ++ Builtin.zeroCells z.cells (grownCap w (n + m) sCap e - (n + m))) e)) := by
    intro base' sCap hg hold
    have hn : ¬ (n + m ≤ sCap) := by omega
    have h63' : ¬ (9223372036854775807 < ((n : Int) + (m : Int))) := by omega
    have hfit := growslice_fits (need := n + m) (old := sCap) (by omega) hbytes
    have h48' : ¬ (281474976710656 < Builtin.nextslicecap (n + m) sCap * i.bytes) := by omega
    have hmb' : ¬ (281474976710656 < (m : Int) * (i.bytes : Int)) := by omega
    simp [Builtin.append_, run_underlying ht, run_underlying htx, sizeOf, typeInfo, zeroValue, hi, hz, hsize, asInt, hai, hwm, hneg, hmb', hm0, hn, h63', h48', Question.forced, hold, newRow, grownCap, hzc, hzA]
    congr 2
    apply Array.ext'
    simp [List.append_assoc]
  rcases hown.2 with ⟨rfl, rfl⟩ | ⟨g, cap, cur, rfl, hbg, hg, hnc, hcm, hcs, htake⟩
  · have hx : xs = [] := List.eq_nil_of_length_eq_zero (by simpa using hown.1)
    subst hx
    have hr := growR none 0 (by omega) (run_firstCells_none w.drew 1 0 0 0)
    have hgr := grown 0 (by omega) (Value.ownBlock (.slice none 0 0))
    exact ⟨_, _, hr, hgr.1, hgr.2, Or.inr rfl⟩
  · by_cases hroom : n + m ≤ cap
    · have hfit : n + (List.replicate m z).length ≤ cur.size := by rw [List.length_replicate, hcs]; omega
      have hst := run_storeCells_at P g n e (List.replicate m z) 0 cur w hg (by simpa using hfit) hz1a
      simp only [Nat.add_zero] at hst
      have hmb' : ¬ (281474976710656 < (m : Int) * (i.bytes : Int)) := by omega
      have hr : (Builtin.append_ #[t, tx] ty #[.slice (some ⟨g, 0, none⟩) n cap, .int .i64 m]).run P w =
          .ok (.slice (some ⟨g, 0, none⟩) (n + m) cap) (w.setRow g (cur.toList.take n ++ List.replicate m z ++ cur.toList.drop (n + (List.replicate m z).length)).toArray) := by
        simp only [List.length_replicate] at hst
        simp [Builtin.append_, run_underlying ht, run_underlying htx, sizeOf, typeInfo, zeroValue, hi, hz, hsize, asInt, hai, hwm, hneg, hmb', hm0, hroom, hzc, hzA, Addr.add_lit, hst]
      refine ⟨_, _, hr, ⟨hlen, .inr ⟨g, cap, _, rfl, hbg, setRow_heap w g cur _ e _ hg, hroom, hcm, ?_, ?_⟩⟩, ⟨rfl, rfl, rfl, by simp, fun k _ hk => setRow_other w g k _ (fun e => hk (by simp [Value.ownBlock, e]))⟩, Or.inl rfl⟩
      · simp only [List.size_toArray, List.length_append, List.length_take, List.length_drop, Array.length_toList, List.length_replicate]
        omega
      · rw [Nat.mul_one] at htake
        rw [htake, ← hlen]
        exact List.take_left
    · have holds : ∀ j u, xs[j]? = some u → w.drew.cell? ((⟨g, 0, none⟩ : Addr).add j) = some u := hown.cells (g := g) rfl
      have hr := growR (some ⟨g, 0, none⟩) cap (by omega) (run_firstCells_some w.drew 1 n ⟨g, 0, none⟩ n cap xs hown.1 holds)
      have hgr := grown cap (by omega) (Value.ownBlock (.slice (some ⟨g, 0, none⟩) n cap))
      exact ⟨_, _, hr, hgr.1, hgr.2, Or.inr rfl⟩
theorem wpList_append_zeros {ops : Array Oper} {rest : List Oper} {o : Oper} {a : Act} {Q : Exit → Act → World → Prop} (hgd : o.guard = none) (s x : Operand) (t tx : TypeId)
    (ho : o.op = .call { callee := .builtin .append, args := #[s, x], argTypes := #[t, tx] })
    (base : Nat) (e : TypeId) (i : TypeInfo) (z : Value) (bytes : Nat) (ht : P.underlying t = some (.slice e)) (htx : P.underlying tx = some (.int .i64)) (hi : P.info? e = some i) (hz : i.zero = some z)
    (hsize : i.size = 1) (hby : i.bytes = bytes) (hzc : z.cells = #[z]) (hz1 : z.oneCell' = true)
    (v : Value) (n : Nat) (xs : List Value) (hs : a.eval s = v) (hown : w.ownsRow base e 1 v n xs)
    (mI : Int) (m : Nat) (hmI : mI = (m : Int)) (hx : a.eval x = .int .i64 mI) (hm : 0 < m)
    (h63 : n + m ≤ 9223372036854775807) (hbytes : (n + m) * bytes ≤ 140737488355328) (hbase : base ≤ w.heap.size)
    (h : ∀ v' w', w'.ownsRow base e 1 v' (n + m) (xs ++ List.replicate m z) → w.grownBy w' v.ownBlock → (v'.ownBlock = v.ownBlock ∨ v'.ownBlock = some w.heap.size) → wpList P ops Q rest (a.put o.dst v') w') : wpList P ops Q (o :: rest) a w := by
  subst hmI
  refine wpList_plain hgd fun K hK => ?_
  obtain ⟨v', w', hr, h2, h3, h4⟩ := run_append_zeros (P := P) w base t tx o.type e i z bytes ht htx hi hz hsize hby hzc hz1 v n xs hown m hm h63 hbytes hbase
  unfold Oper.wp execOp
  simp only [ho, resolve, invoke, builtin, Sem.run_bind, Sem.run_pure, Result.andThen_ok, List.map_toArray, List.map_cons, List.map_nil, hs, hx, hr]
  exact hK _ _ (h v' w' h2 h3 h4)
end
end Go.Proofs.YtbhdlclaooohfaaGreatDoor

/- Parts of a slice of bytes. No program is named here. -/
namespace Go.Proofs.YtbhdlclaooohfaaGreatDoor
open Go.ChangeShapes Go.WideShapes Go.ChangeAt Go.RowKit
set_option linter.unusedVariables false
set_option linter.unusedSimpArgs false

theorem slice8 {P : Program} (T e : TypeId) (hT : P.underlying T = some (.slice e)) (hz : ∀ w, (Go.sizeOf e).run P w = .ok 1 w) (a : Option Addr) (n cap lo hi : Nat) (h1 : lo ≤ hi) (h2 : hi ≤ n) (hnc : n ≤ cap) :
    ∃ a2 c2, (∀ W, (Instr.slice T (.slice a n cap) (some (.int .i64 lo)) (some (.int .i64 hi)) none).run P W = .ok (.slice a2 (hi - lo) c2) W) ∧ hi - lo ≤ c2 ∧ c2 ≤ cap ∧ (∀ W (l : List Int), l.length = n → Cells8 W a l → Cells8 W a2 ((l.drop lo).take (hi - lo))) := by
  have ht' : P.underlying T = some (.slice (P.elem T)) := by simp [Program.elem, hT]
  have he : P.elem T = e := by simp [Program.elem, hT]
  refine ⟨if cap = lo then a else a.map (·.add lo), cap - lo, fun W => ?_, by omega, by omega, fun W l hl hc => ?_⟩
  · rw [run_slice_lh W T _ _ _ ht' .i64 .i64 _ _ (by omega) (by omega) (by omega), he, hz]
    simp [Result.andThen, sliced]
  · by_cases h0 : hi - lo = 0
    · rw [h0, List.take_zero]; exact Cells8.nil _ _
    · obtain ⟨b, o, rfl, _⟩ := hc.addr (by omega)
      have hne : ¬ cap = lo := by omega
      rw [if_neg hne, Option.map_some, Addr.add_lit]
      exact (hc.drop lo).take _
theorem slice8_to {P : Program} (T e : TypeId) (hT : P.underlying T = some (.slice e)) (hz : ∀ w, (Go.sizeOf e).run P w = .ok 1 w) (a : Option Addr) (n cap hi : Nat) (h2 : hi ≤ n) (hnc : n ≤ cap) :
    ∃ a2, (∀ W, (Instr.slice T (.slice a n cap) none (some (.int .i64 hi)) none).run P W = .ok (.slice a2 hi cap) W) ∧ (∀ W (l : List Int), l.length = n → Cells8 W a l → Cells8 W a2 (l.take hi)) := by
  have ht' : P.underlying T = some (.slice (P.elem T)) := by simp [Program.elem, hT]
  have he : P.elem T = e := by simp [Program.elem, hT]
  refine ⟨if cap = 0 then a else a.map (·.add 0), fun W => ?_, fun W l hl hc => ?_⟩
  · rw [run_slice_h W T _ _ _ ht' .i64 _ (by omega) (by omega), he, hz]
    simp [Result.andThen, sliced]
  · by_cases h0 : hi = 0
    · rw [h0, List.take_zero]; exact Cells8.nil _ _
    · obtain ⟨b, o, rfl, _⟩ := hc.addr (by omega)
      have hne : ¬ cap = 0 := by omega
      rw [if_neg hne, Option.map_some, Addr.add_lit, Nat.add_zero]
      exact hc.take _
theorem slice_lo1 {P : Program} (T e : TypeId) (hT : P.underlying T = some (.slice e)) (hz : ∀ w, (Go.sizeOf e).run P w = .ok 1 w) (g o n cap lo : Nat) (h1 : lo ≤ n) (h2 : lo < cap) (hnc : n ≤ cap) :
    ∀ W, (Instr.slice T (.slice (some ⟨g, o, none⟩) n cap) (some (.int .i64 lo)) none none).run P W = .ok (.slice (some ⟨g, o + lo, none⟩) (n - lo) (cap - lo)) W := fun W => by
  have ht' : P.underlying T = some (.slice (P.elem T)) := by simp [Program.elem, hT]
  have he : P.elem T = e := by simp [Program.elem, hT]
  rw [run_slice_l W T _ _ _ ht' .i64 _ (by omega) (by omega), he, hz]
  have hne : ¬ cap = lo := by omega
  simp [Result.andThen, sliced, hne, Addr.add_lit]
theorem slice_hi1 {P : Program} (T e : TypeId) (hT : P.underlying T = some (.slice e)) (hz : ∀ w, (Go.sizeOf e).run P w = .ok 1 w) (g o n cap hi : Nat) (h1 : hi ≤ n) (h2 : 0 < cap) (hnc : n ≤ cap) :
    ∀ W, (Instr.slice T (.slice (some ⟨g, o, none⟩) n cap) none (some (.int .i64 hi)) none).run P W = .ok (.slice (some ⟨g, o, none⟩) hi cap) W := fun W => by
  have ht' : P.underlying T = some (.slice (P.elem T)) := by simp [Program.elem, hT]
  have he : P.elem T = e := by simp [Program.elem, hT]
  rw [run_slice_h W T _ _ _ ht' .i64 _ (by omega) (by omega), he, hz]
  have hne : ¬ cap = 0 := by omega
  simp [Result.andThen, sliced, hne, Addr.add_lit]
/-- 's[lo:]' -/
theorem slice8_from {P : Program} (T e : TypeId) (hT : P.underlying T = some (.slice e)) (hz : ∀ w, (Go.sizeOf e).run P w = .ok 1 w) (a : Option Addr) (n cap lo : Nat) (h2 : lo ≤ n) (hnc : n ≤ cap) :
    ∃ a2, (∀ W, (Instr.slice T (.slice a n cap) (some (.int .i64 lo)) none none).run P W = .ok (.slice a2 (n - lo) (cap - lo)) W) ∧ (∀ W (l : List Int), l.length = n → Cells8 W a l → Cells8 W a2 (l.drop lo)) ∧ (∀ b o, a = some ⟨b, o, none⟩ → ∀ x, a2 = some x → x.block = b) := by
  have ht' : P.underlying T = some (.slice (P.elem T)) := by simp [Program.elem, hT]
  have he : P.elem T = e := by simp [Program.elem, hT]
  refine ⟨if cap = lo then a else a.map (·.add lo), fun W => ?_, fun W l hl hc => ?_, fun b o ha x hx => ?_⟩
  · rw [run_slice_l W T _ _ _ ht' .i64 _ (by omega) (by omega), he, hz]
    simp [Result.andThen, sliced]
  · by_cases h0 : n = lo
    · rw [List.drop_eq_nil_of_le (by omega)]; exact Cells8.nil _ _
    · obtain ⟨b, o, rfl, _⟩ := hc.addr (by omega)
      have hne : ¬ cap = lo := by omega
      rw [if_neg hne, Option.map_some, Addr.add_lit]
      exact hc.drop lo
  · subst ha
    by_cases h0 : cap = lo
    · rw [if_pos h0] at hx; cases hx; rfl
    · rw [if_neg h0, Option.map_some, Addr.add_lit] at hx
      cases hx; rfl
end Go.Proofs.YtbhdlclaooohfaaGreatDoor

