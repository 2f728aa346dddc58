import Derived.Test.YtfcoaafmjllpfaaVgN
import Derived.Deep.AppendSrc
import Derived.Laws.Cover1
import Derived.Test.YtfcoaafmjllpfaaReg3
/- The document's disk: rows that are read; names looked up. -/
namespace Go.Proofs.Ytfcoaafmjllpfaa
open Go.Shelf Go.ChangeShapes Go.WideShapes Go.ChangeAt Go.RowKit
set_option linter.unusedVariables false
set_option linter.unusedSimpArgs false

/-- cells that can be read -/
def Cs (w : World) (e : TypeId) (a : Option Addr) (cs : List Value) : Prop := cs = [] ∨ ∃ b o, a = some ⟨b, o, none⟩ ∧ IsT e w b ∧ ∀ i (h : i < cs.length), w.cell? ⟨b, o + i, none⟩ = some cs[i]
/-- a row that can be read: n elements of k cells -/
structure RowC (w : World) (e : TypeId) (k : Nat) (v : Value) (n : Nat) (cs : List Value) : Prop where
  shape : ∃ a c, v = .slice a n c ∧ n ≤ c ∧ c ≤ maxLen ∧ (a = none → n = 0) ∧ Cs w e a cs
  len : cs.length = n * k
  one : ∀ u ∈ cs, u.oneCell' = true
theorem Cs.mod {F : List Nat} {w w' : World} {e : TypeId} {a : Option Addr} {cs : List Value} (h : Cs w e a cs) (hm : Mod F w w') (hF : ∀ x ∈ F, ¬ IsT e w x) : Cs w' e a cs := by
  rcases h with h | ⟨b, o, rfl, ht, hc⟩
  · exact .inl h
  · have hb : b ∉ F := fun hb => hF b hb ht
    exact .inr ⟨b, o, rfl, ht.mod hm hb, fun i hi => hm.cell (hc i hi) hb⟩
theorem RowC.mod {F : List Nat} {w w' : World} {e : TypeId} {k : Nat} {v : Value} {n : Nat} {cs : List Value} (h : RowC w e k v n cs) (hm : Mod F w w') (hF : ∀ x ∈ F, ¬ IsT e w x) : RowC w' e k v n cs := by
  obtain ⟨a, c, e1, e2, e3, e5, e4⟩ := h.shape
  exact ⟨⟨a, c, e1, e2, e3, e5, e4.mod hm hF⟩, h.len, h.one⟩
theorem RowC.quiet {w w' : World} {e : TypeId} {k : Nat} {v : Value} {n : Nat} {cs : List Value} (h : RowC w e k v n cs) (hm : Mod [] w w') : RowC w' e k v n cs := h.mod hm (by simp)
theorem RowC.nil (w : World) (e : TypeId) (k : Nat) : RowC w e k (.slice none 0 0) 0 [] := ⟨⟨none, 0, rfl, Nat.le_refl _, by simp [maxLen], fun _ => rfl, .inl rfl⟩, by simp, by simp⟩
theorem RowC.ofOwns {w : World} {B : Nat} {e : TypeId} {k : Nat} {v : Value} {n : Nat} {cs : List Value} (h : w.ownsRow B e k v n cs) (h1 : ∀ u ∈ cs, u.oneCell' = true) : RowC w e k v n cs := by
  refine ⟨?_, h.1, h1⟩
  rcases h.2 with ⟨rfl, rfl⟩ | ⟨g, cap, cur, rfl, hb, hg, hn, hc, hs, ht⟩
  · have : cs = [] := List.eq_nil_of_length_eq_zero (by rw [h.1]; simp)
    exact ⟨none, 0, rfl, Nat.le_refl _, by simp [maxLen], fun _ => rfl, .inl this⟩
  · refine ⟨some ⟨g, 0, none⟩, cap, rfl, hn, hc, by simp, .inr ⟨g, 0, rfl, ⟨cur, hg⟩, fun i hi => ?_⟩⟩
    have h2 := h.cellAt i (by rw [← h.1]; exact hi)
    rw [Nat.zero_add, h2, List.getElem?_eq_getElem hi]
theorem RowC.src {P : Program} {w : World} {e : TypeId} {k : Nat} {v : Value} {n : Nat} {cs : List Value} (h : RowC w e k v n cs) {tx : TypeId} (ht : P.underlying tx = some (.slice e)) : Src P k tx v n cs w := by
  obtain ⟨a, c, rfl, hn, hc, hno, hcs⟩ := h.shape
  rcases hcs with rfl | ⟨b, o, rfl, -, hcell⟩
  · cases a with
    | none =>
      have hn0 := hno rfl
      subst hn0
      exact Src.ofNil (w := w) ht c
    | some a => exact Src.ofSlice (w := w) ht a n c [] h.len (by simp) (by simp)
  · refine Src.ofSlice (w := w) ht _ n c cs h.len ?_ h.one
    intro j u hj
    obtain ⟨hlt, rfl⟩ := List.getElem?_eq_some_iff.1 hj
    rw [Addr.add_lit]
    exact hcell j hlt
theorem RowC.slice {w : World} {e : TypeId} {k : Nat} {a : Option Addr} {m c : Nat} {n : Nat} {cs : List Value} (h : RowC w e k (.slice a m c) n cs) : m = n := by
  obtain ⟨a', c', e1, -⟩ := h.shape
  simp only [Value.slice.injEq] at e1
  exact e1.2.1
theorem RowC.at {w : World} {e : TypeId} {k : Nat} {v : Value} {n : Nat} {cs : List Value} (h : RowC w e k v n cs) (hk : 0 < k) (hn : 0 < n) : ∃ b o c, v = .slice (some ⟨b, o, none⟩) n c ∧ n ≤ c ∧ c ≤ maxLen ∧ IsT e w b ∧ ∀ i (h : i < cs.length), w.cell? ⟨b, o + i, none⟩ = some cs[i] := by
  obtain ⟨a, c, rfl, hnc, hc, hno, hcs⟩ := h.shape
  rcases hcs with hz | ⟨b, o, rfl, ht, hcell⟩
  · have h1 := h.len
    rw [hz, List.length_nil] at h1
    have h2 : 0 < n * k := Nat.mul_pos hn hk
    omega
  · exact ⟨b, o, c, rfl, hnc, hc, ht, hcell⟩
/-- names with files' places -/
abbrev EntL := List (ByteArray × Int)
def entC (es : EntL) : List Value := es.flatMap fun e => [.string e.1, .int .i64 e.2]
theorem entC_len : ∀ es : EntL, (entC es).length = es.length * 2
  | [] => rfl
  | e :: r => by
    have : entC (e :: r) = .string e.1 :: .int .i64 e.2 :: entC r := rfl
    rw [this, List.length_cons, List.length_cons, entC_len r, List.length_cons]; omega
theorem entC_app (a b : EntL) : entC (a ++ b) = entC a ++ entC b := by simp [entC]
theorem entC_one : ∀ {es : EntL}, ∀ u ∈ entC es, u.oneCell' = true := by
  intro es u hu
  obtain ⟨e, -, h⟩ := List.mem_flatMap.1 hu
  simp at h
  rcases h with rfl | rfl <;> rfl
theorem entC_get : ∀ {es : EntL} {i : Nat} (h : i < es.length), (entC es)[i * 2]? = some (.string es[i].1) ∧ (entC es)[i * 2 + 1]? = some (.int .i64 es[i].2)
  | e :: r, 0, _ => ⟨rfl, rfl⟩
  | e :: r, i + 1, h => by
    have e1 : entC (e :: r) = .string e.1 :: .int .i64 e.2 :: entC r := rfl
    rw [e1, show (i + 1) * 2 = i * 2 + 2 by omega]
    exact entC_get (es := r) (i := i) (by simpa using h)
def Ents (w : World) (v : Value) (es : EntL) : Prop := RowC w 81 2 v es.length (entC es)
def findR (es : EntL) (s : ByteArray) : Int := match es.find? (fun e => decide (e.1 = s)) with | some e => e.2 | none => -1
theorem findR_cons (e : ByteArray × Int) (es : EntL) (s : ByteArray) : findR (e :: es) s = if e.1 = s then e.2 else findR es s := by
  unfold findR
  rw [List.find?_cons]
  by_cases h : e.1 = s
  · simp [h]
  · simp [h]
theorem Ents.cells {w : World} {v : Value} {es : EntL} (h : Ents w v es) (i : Nat) (hi : i < es.length) : ∃ b o c, v = .slice (some ⟨b, o, none⟩) es.length c ∧ es.length ≤ c ∧ w.cell? ⟨b, o + i * 2, none⟩ = some (.string es[i].1) ∧ w.cell? ⟨b, o + i * 2 + 1, none⟩ = some (.int .i64 es[i].2) := by
  obtain ⟨b, o, c, e, hn, -, -, hc⟩ := RowC.at h (by decide) (by omega)
  have hl := entC_len es
  obtain ⟨g1, g2⟩ := entC_get hi
  have c1 := hc (i * 2) (by rw [hl]; omega)
  have c2 := hc (i * 2 + 1) (by rw [hl]; omega)
  refine ⟨b, o, c, e, hn, ?_, ?_⟩
  · rw [c1, ← List.getElem?_eq_getElem, g1]
  · rw [Nat.add_assoc, c2, ← List.getElem?_eq_getElem, g2]
theorem strB (a b : ByteArray) : (a.toList == b.toList) = decide (a = b) := by
  rw [Lib.toList_data, Lib.toList_data]
  by_cases h : a = b
  · subst h; simp
  · have h3 : ¬ a.data = b.data := fun h4 => h (ByteArray.ext h4)
    simp [h, h3]
set_option maxHeartbeats 1000000 in
theorem find_r (w : World) (v : Value) (es : EntL) (h : Ents w v es) (hl : es.length ≤ 1000000000) (s : ByteArray) :
    Calls Try.prog 33 #[v, .string s] w fun e w' => e = .returned (.int .i64 (findR es s)) ∧ w' = w := by
  obtain ⟨a, c, rfl, hnc, hc, hno, hcs⟩ := h.shape
  have H := Lib.hid h
  clear h hcs
  go_enter Try.func33, Try.ntmps33
  go_wp2_with fail
  go_loop [5] (fun i => ∃ (n : Nat), i = .int .i64 n ∧ n ≤ es.length ∧ findR es s = findR (es.drop n) s) (fun i => (es.length - intOf i).toNat)
  case atStart => exact ⟨0, rfl, Nat.zero_le _, rfl⟩
  case round =>
    obtain ⟨n, rfl, hn, hf⟩ := hrel
    have HF := Lib.hid hf
    clear hf
    by_cases hlt : n < es.length
    · obtain ⟨b, o, c', e1, -, j0, j1⟩ := Ents.cells H.out n hlt
      simp only [Value.slice.injEq] at e1
      obtain ⟨rfl, -, rfl⟩ := e1
      have hd : es.drop n = es[n] :: es.drop (n + 1) := List.drop_eq_getElem_cons hlt
      generalize es[n]'hlt = e at *
      obtain ⟨en, ef⟩ := e
      simp only at j0 j1
      have HD := Lib.hid hd
      clear hd
      by_cases hq : en = s
      · subst hq
        go_wp2_with fail
        go_ret
        rw [HF.out, HD.out, findR_cons, if_pos rfl]
        exact ⟨rfl, rfl⟩
      · have hq2 : (en.toList == s.toList) = false := by rw [strB]; simpa using hq
        have hq3 : ¬ en.toList = s.toList := by intro h; rw [h] at hq2; simp at hq2
        go_wp2_with fail
        go_round
        case rel => exact ⟨n + 1, by go_num, by omega, by rw [HF.out, HD.out, findR_cons, if_neg hq]⟩
        case measure => simp [intOf]; omega
    · have : n = es.length := by omega
      subst this
      go_wp2_with fail
      go_ret
      rw [HF.out, List.drop_length]
      exact ⟨rfl, rfl⟩
end Go.Proofs.Ytfcoaafmjllpfaa

/- The document's disk: names without one, with one. -/
namespace Go.Proofs.Ytfcoaafmjllpfaa
open Go.Shelf Go.ChangeShapes Go.WideShapes Go.ChangeAt Go.RowKit
set_option linter.unusedVariables false
set_option linter.unusedSimpArgs false

theorem einfo : (Try.prog.info? 81).map (fun i => (i.zero, i.size, i.bytes)) = some (some (.agg #[.string ByteArray.empty, .int .i64 0]), 2, 24) := by kernel_rfl
/-- append of a row to a row of one's own -/
theorem wpList_appR {P : Program} (w : World) {ops : Array Oper} {rest : List Oper} {o : Oper} {a : Go.Act} {Q : Exit → Go.Act → World → Prop} (hgd : o.guard = none) (s x : Operand) (t : TypeId)
    (ho : o.op = .call { callee := .builtin .append, args := #[s, x], argTypes := #[t, t] }) (e : TypeId) (z : Value) (k bytes : Nat) (ht : P.underlying t = some (.slice e)) (hi : (P.info? e).map (fun i => (i.zero, i.size, i.bytes)) = some (some z, k, bytes)) (hzs : z.cells.size = k) (hby : bytes ≤ 100)
    (B : Nat) (v : Value) (n : Nat) (xs : List Value) (hs : a.eval s = v) (hown : w.ownsRow B e k v n xs) (xv : Value) (m : Nat) (ys : List Value) (hx : a.eval x = xv) (hsrc : RowC w e k xv m ys) (hl : n + m ≤ 1000000000) (hB : B ≤ w.heap.size)
    (h : ∀ v' w', w'.ownsRow B e k v' (n + m) (xs ++ ys) → Mod v.ownBlock.toList w w' → wpList P ops Q rest (a.put o.dst v') w') : wpList P ops Q (o :: rest) a w := by
  obtain ⟨i, h1, h2, h3, h4⟩ := info_parts hi
  refine wpList_append_src w hgd s x t t ho B e i z k bytes ht h1 h2 h3 h4 hzs v n xs hs hown xv m ys hx (hsrc.src ht) (by simp only [maxLen]; omega) ?_ hB ?_
  · have : (n + m) * bytes ≤ 1000000000 * 100 := Nat.mul_le_mul hl hby
    omega
  · intro v' w' k1 k2 k3
    exact h v' w' k1 (Mod.ofGrown k2)
/-- a row of one element, just made -/
theorem one_row (w : World) (e : TypeId) (cs : Array Value) (h1 : ∀ u ∈ cs.toList, u.oneCell' = true) : RowC (w.alloc (.cells cs e)) e cs.size (.slice (some ⟨w.heap.size, 0, none⟩) 1 1) 1 cs.toList := by
  refine ⟨⟨some ⟨w.heap.size, 0, none⟩, 1, rfl, Nat.le_refl _, by simp [maxLen], by simp, .inr ⟨_, 0, rfl, ⟨_, heap_alloc_new w _⟩, fun i hi => ?_⟩⟩, by simp, h1⟩
  have hi2 : i < cs.size := by simpa using hi
  rw [Nat.zero_add, blk_cell (heap_alloc_new w (.cells cs e)) i]
  rw [Array.getElem?_eq_getElem hi2]
  simp
theorem one_ent (w : World) (s : ByteArray) (f : Int) : RowC (w.alloc (.cells #[.string s, .int .i64 f] 81)) 81 2 (.slice (some ⟨w.heap.size, 0, none⟩) 1 1) 1 (entC [(s, f)]) :=
  one_row w _ #[.string s, .int .i64 f] (by intro u hu; simp at hu; rcases hu with rfl | rfl <;> rfl)
def withoutR (es : EntL) (s : ByteArray) : EntL := es.filter fun e => !decide (e.1 = s)
/-- a row of names of one's own -/
def OwnE (B : Nat) (w : World) (v : Value) (es : EntL) : Prop := w.ownsRow B 81 2 v es.length (entC es)
theorem OwnE.ents {B : Nat} {w : World} {v : Value} {es : EntL} (h : OwnE B w v es) : Ents w v es := RowC.ofOwns h entC_one
theorem Ents.mod {F : List Nat} {w w' : World} {v : Value} {es : EntL} (h : Ents w v es) (hm : Mod F w w') (hF : ∀ x ∈ F, ¬ IsT 81 w x) : Ents w' v es := RowC.mod h hm hF
set_option maxRecDepth 100000 in
set_option maxHeartbeats 2000000 in
theorem without_r (w : World) (v : Value) (es : EntL) (h : Ents w v es) (hl : es.length ≤ 100000000) (s : ByteArray) :
    Calls Try.prog 62 #[v, .string s] w fun e w' => ∃ v', e = .returned v' ∧ OwnE w.heap.size w' v' (withoutR es s) ∧ Mod [] w w' := by
  obtain ⟨a, c, rfl, hnc, hc, hno, hcs⟩ := h.shape
  have H := Lib.hid h
  clear h hcs
  go_enter Try.func62, Try.ntmps62
  go_wp2_with fail
  go_loopw [5, 6] (fun out i wr => ∃ (n : Nat), i = .int .i64 n ∧ n ≤ es.length ∧ OwnE w.heap.size wr out (withoutR (es.take n) s) ∧ Mod [] w wr) (fun _ i _ => (es.length - intOf i).toNat)
  case atStart => exact ⟨0, rfl, Nat.zero_le _, World.ownsRow_nil _ _ _ _, Mod.refl _ _⟩
  case round =>
    obtain ⟨n, rfl, hn, ho, hm⟩ := hrel
    obtain ⟨ao, co, rfl, -, -⟩ := owns_shape ho
    have HO := Lib.hid ho
    have HM := Lib.hid hm
    clear ho hm
    by_cases hlt : n < es.length
    · obtain ⟨b, o, c', e1, -, j0, j1⟩ := Ents.cells (Ents.mod H.out HM.out (by simp)) n hlt
      simp only [Value.slice.injEq] at e1
      obtain ⟨rfl, -, rfl⟩ := e1
      have ht : withoutR (es.take (n + 1)) s = withoutR (es.take n) s ++ (if es[n].1 = s then [] else [es[n]]) := by
        unfold withoutR
        rw [List.take_succ_eq_append_getElem hlt, List.filter_append]
        by_cases hq : es[n].1 = s
        · simp [hq]
        · simp [hq]
      have hol : (withoutR (es.take n) s).length ≤ n := by
        unfold withoutR
        refine Nat.le_trans (List.length_filter_le _ _) ?_
        rw [List.length_take]; omega
      generalize es[n]'hlt = e at *
      obtain ⟨en, ef⟩ := e
      simp only at j0 j1 ht
      have HT := Lib.hid ht
      clear ht
      by_cases hq : en = s
      · subst hq
        go_wp2_with fail
        go_roundw
        case rel => exact ⟨n + 1, by go_num, by omega, by rw [HT.out, if_pos rfl, List.append_nil]; exact HO.out, HM.out⟩
        case measure => simp [intOf]; omega
      · have hq2 : (en.toList == s.toList) = false := by rw [strB]; simpa using hq
        have hq3 : ¬ en.toList = s.toList := by intro h; rw [h] at hq2; simp at hq2
        have HS := Lib.hid (one_ent wr en ef)
        have hma : Mod [] wr (wr.alloc (.cells #[.string en, .int .i64 ef] 81)) := (Mod.refl [] wr).alloc _
        have HOa := Lib.hid (hma.owns HO.out (by simp))
        have HMa := Lib.hid (HM.out.trans hma)
        clear hma
        generalize withoutR (es.take n) s = es1 at *
        go_wp2_with (at_builtin; refine wpList_appR _ rfl _ _ 71 rfl 81 _ 2 24 Try.underlying71 einfo rfl (by decide) w.heap.size _ _ _ rfl HOa.out _ 1 _ rfl HS.out (by omega) (by have := HMa.out.size; simpa using this) ?_; intro v' w2 ho2 hm2; obtain ⟨a2, c2, rfl, -, -⟩ := owns_shape ho2; have HO2 := Lib.hid ho2; have HM2 := Lib.hid hm2; clear ho2 hm2)
        go_roundw
        case rel =>
          refine ⟨n + 1, by go_num, by omega, ?_, ?_⟩
          · rw [HT.out, if_neg hq]
            unfold OwnE
            rw [List.length_append, entC_app]
            exact HO2.out
          · refine HMa.out.trans' HM2.out (fun x hx => .inr ?_)
            exact (HOa.out.lt x (Option.mem_toList.1 hx)).1
        case measure => simp [intOf]; omega
    · have : n = es.length := by omega
      subst this
      generalize hg : withoutR (es.take es.length) s = es1 at *
      have HG := Lib.hid hg
      clear hg
      go_wp2_with fail
      go_ret
      have hq : es1 = withoutR es s := by rw [← HG.out, List.take_length]
      subst hq
      exact ⟨_, rfl, HO.out, HM.out⟩
/-- what put answers: the names that there were, but one, and x -/
def PutP (w : World) (es : EntL) (x : ByteArray × Int) (e : Ending) (w' : World) : Prop := ∃ v' es', e = .returned v' ∧ Ents w' v' es' ∧ es'.length ≤ es.length + 1 ∧ (∀ y ∈ es', y = x ∨ y ∈ es) ∧ Mod [] w w'
theorem RowC.cap {w : World} {e : TypeId} {k : Nat} {a : Option Addr} {m c : Nat} {n : Nat} {cs : List Value} (h : RowC w e k (.slice a m c) n cs) : n ≤ c := by
  obtain ⟨a', c', e1, h1, -⟩ := h.shape
  simp only [Value.slice.injEq] at e1
  omega
theorem RowC.take {w : World} {e : TypeId} {k : Nat} {a : Option Addr} {c : Nat} {n : Nat} {cs : List Value} (h : RowC w e k (.slice a n c) n cs) (i : Nat) (hi : i ≤ n) : RowC w e k (.slice a i c) i (cs.take (i * k)) := by
  obtain ⟨a', c', e1, h1, h2, h3, h4⟩ := h.shape
  simp only [Value.slice.injEq] at e1
  obtain ⟨rfl, -, rfl⟩ := e1
  have hl := h.len
  have hik : i * k ≤ n * k := Nat.mul_le_mul_right _ hi
  refine ⟨⟨a, c, rfl, by omega, h2, fun ha => by have := h3 ha; omega, ?_⟩, by rw [List.length_take]; omega, fun u hu => h.one u (List.mem_of_mem_take hu)⟩
  rcases h4 with h5 | ⟨b, o, rfl, ht, hc⟩
  · left; rw [h5]; simp
  · refine .inr ⟨b, o, rfl, ht, fun j hj => ?_⟩
    rw [List.length_take] at hj
    rw [hc j (by omega), List.getElem_take]
theorem entC_take : ∀ (es : EntL) (i : Nat), (entC es).take (i * 2) = entC (es.take i)
  | [], i => by simp [entC]
  | e :: r, 0 => by simp [entC]
  | e :: r, i + 1 => by
    have e1 : entC (e :: r) = .string e.1 :: .int .i64 e.2 :: entC r := rfl
    have e2 : entC ((e :: r).take (i + 1)) = .string e.1 :: .int .i64 e.2 :: entC (r.take i) := rfl
    rw [e1, e2, show (i + 1) * 2 = i * 2 + 2 by omega, List.take_succ_cons, List.take_succ_cons, entC_take r i]
theorem entC_drop : ∀ (es : EntL) (i : Nat), (entC es).drop (i * 2) = entC (es.drop i)
  | [], i => by simp [entC]
  | e :: r, 0 => by simp
  | e :: r, i + 1 => by
    have e1 : entC (e :: r) = .string e.1 :: .int .i64 e.2 :: entC r := rfl
    rw [e1, show (i + 1) * 2 = i * 2 + 2 by omega, List.drop_succ_cons, List.drop_succ_cons, List.drop_succ_cons, entC_drop r i]
/-- a row from a place on -/
theorem slice_from {P : Program} (T e : TypeId) (k : Nat) (hT : P.underlying T = some (.slice e)) (hz : ∀ w, (Go.sizeOf e).run P w = .ok k w) (a : Option Addr) (n c i : Nat) (hi : i ≤ n) (hnc : n ≤ c) :
    ∃ a2, (∀ W, (Instr.slice T (.slice a n c) (some (.int .i64 i)) none none).run P W = .ok (.slice a2 (n - i) (c - i)) W) ∧ (∀ W cs, RowC W e k (.slice a n c) n cs → RowC W e k (.slice a2 (n - i) (c - i)) (n - i) (cs.drop (i * k))) := by
  have ht' : P.underlying T = some (.slice (P.elem T)) := by simp [Program.elem, hT]
  have he : P.elem T = e := by simp [Program.elem, hT]
  refine ⟨if c = i then a else a.map (·.add (i * k)), fun W => ?_, fun W cs h => ?_⟩
  · rw [run_slice_l W T _ _ _ ht' .i64 _ (by omega) (by omega), he, hz]
    simp [Result.andThen, sliced]
  · obtain ⟨a', c', e1, h1, h2, h3, h4⟩ := h.shape
    simp only [Value.slice.injEq] at e1
    obtain ⟨rfl, -, rfl⟩ := e1
    have hl := h.len
    have hik : (n - i) * k = n * k - i * k := Nat.sub_mul n i k
    refine ⟨⟨_, _, rfl, by omega, by omega, ?_, ?_⟩, by rw [List.length_drop]; omega, fun u hu => h.one u (List.mem_of_mem_drop hu)⟩
    · intro ha
      split at ha
      · omega
      · cases a with
        | none => have := h3 rfl; omega
        | some y => simp at ha
    · rcases h4 with h5 | ⟨b, o, rfl, ht, hc⟩
      · left; rw [h5]; simp
      · by_cases hci : c = i
        · left
          apply List.eq_nil_of_length_eq_zero
          rw [List.length_drop]
          have : n = i := by omega
          subst this; omega
        · rw [if_neg hci]
          refine .inr ⟨b, o + i * k, ?_, ht, fun j hj => ?_⟩
          · show some ((⟨b, o, none⟩ : Addr).add (i * k)) = _
            by_cases h0 : i * k = 0 <;> simp [Addr.add, h0]
          · rw [List.length_drop] at hj
            rw [Nat.add_assoc, hc (i * k + j) (by omega), List.getElem_drop]
theorem szEnt : ∀ w, (Go.sizeOf 81).run Try.prog w = .ok 2 w := fun w => by kernel_rfl
end Go.Proofs.Ytfcoaafmjllpfaa

/- The document's disk: put, do. -/
namespace Go.Proofs.Ytfcoaafmjllpfaa
open Go.Shelf Go.ChangeShapes Go.WideShapes Go.ChangeAt Go.RowKit
set_option linter.unusedVariables false
set_option linter.unusedSimpArgs false

theorem Mod.drewN' {F : List Nat} {a w : World} (h : Mod F a w) (n : Nat) : Mod F a (w.drewN n) := ⟨h.os, h.tape, h.output, h.size, h.block⟩
set_option maxRecDepth 100000 in
set_option maxHeartbeats 4000000 in
theorem put_r (w : World) (v : Value) (es : EntL) (h : Ents w v es) (hl : es.length ≤ 10000000) (s : ByteArray) (f : Int) :
    Calls Try.prog 34 #[v, .agg #[.string s, .int .i64 f]] w (PutP w es (s, f)) := by
  obtain ⟨a, c, rfl, hnc, hc, hno, hcs⟩ := h.shape
  have hm0 : Mod [] w (w.alloc (.cells #[.string s, .int .i64 f] 81)) := (Mod.refl [] w).alloc _
  have HW := Lib.hid (without_r _ _ es (h.mod hm0 (by simp)) (by omega) s)
  have HM0 := Lib.hid hm0
  have HB0 := Lib.hid (heap_alloc_new w (.cells #[.string s, .int .i64 f] 81))
  have j0 := blk_cell HB0.out 0
  clear h hcs hm0
  unfold PutP
  go_enter Try.func34, Try.ntmps34
  generalize hw0 : w.alloc (.cells #[.string s, .int .i64 f] 81) = w0 at *
  go_wp2_with fail
  refine HW.out.mono ?_
  rintro e w1 ⟨v1, rfl, ho1, hm1⟩
  obtain ⟨a1, c1, rfl, -, -⟩ := owns_shape ho1
  have hw1l : (withoutR es s).length ≤ es.length := List.length_filter_le _ _
  have hsub : ∀ y ∈ withoutR es s, y ∈ es := fun y hy => (List.mem_filter.1 hy).1
  generalize withoutR es s = es1 at *
  have HE1 := Lib.hid (OwnE.ents ho1)
  have HM1 := Lib.hid (HM0.out.trans hm1)
  have HB1 := Lib.hid (hm1.row HB0.out (by simp))
  have HSub := Lib.hid hsub
  clear ho1 hm1 j0 hsub
  go_wp2_with fail
  go_loopw [5] (fun kk wr => ∃ (k : Nat), kk = .int .i64 k ∧ k ≤ es1.length ∧ Mod [] w1 wr) (fun kk _ => (intOf kk).toNat)
  case atStart => exact ⟨es1.length, rfl, Nat.le_refl _, Mod.refl _ _⟩
  case round =>
    obtain ⟨k, rfl, hk, hmr⟩ := hrel
    have HMr := Lib.hid hmr
    have hBr := hmr.row HB1.out (by simp)
    have j0 : wr.cell? ⟨w.heap.size, 0, none⟩ = some (.string s) := blk_cell hBr 0
    have HBr := Lib.hid hBr
    clear hmr hBr
    by_cases hk0 : k = 0
    · subst hk0
      go_wp2_with fail
      go_quiet (fail)
      have hmW : Mod [] w1 (wr.drewN nq) := HMr.out.drewN' nq
      generalize hWx : wr.drewN nq = W at *
      have HMW := Lib.hid hmW
      have r1 := RowC.take (HE1.out.quiet hmW) (0) (by omega)
      rw [entC_take] at r1
      have hcap1 := RowC.cap HE1.out
      obtain ⟨a2, hsl, hr2⟩ := slice_from (P := Try.prog) 71 81 2 Try.underlying71 szEnt a1 es1.length c1 (0) (by omega) hcap1
      rw [show ((0 : Nat) : Int) = 0 from rfl] at hsl
      have HR2 := Lib.hid hr2
      have hBW := hmW.row HB1.out (by simp)
      have HBW := Lib.hid hBW
      have HR1 := Lib.hid r1
      clear r1 hr2 hBW hmW hWx hcap1
      go_wp2_with (at_builtin; refine wpList_appR _ rfl _ _ 71 rfl 81 _ 2 24 Try.underlying71 einfo rfl (by decide) W.heap.size _ 0 [] rfl (World.ownsRow_nil _ _ _ _) _ (0) _ rfl HR1.out (by omega) (Nat.le_refl _) ?_)
      intro v2 w2 ho2 hm2
      simp only [Value.ownBlock, Option.toList_none, Nat.zero_add, List.nil_append] at hm2 ho2
      obtain ⟨ao2, co2, rfl, -, -⟩ := owns_shape ho2
      have HO2 := Lib.hid ho2
      have HM2 := Lib.hid hm2
      have hB2 := hm2.row HBW.out (by simp)
      have q0 : w2.cell? ⟨w.heap.size, 0, none⟩ = some (.string s) := blk_cell hB2 0
      have q1 : w2.cell? ⟨w.heap.size, 1, none⟩ = some (.int .i64 f) := blk_cell hB2 1
      have HOn := Lib.hid (one_ent w2 s f)
      have hma2 : Mod [] w2 (w2.alloc (.cells #[.string s, .int .i64 f] 81)) := (Mod.refl [] w2).alloc _
      have HMa2 := Lib.hid hma2
      have HO2a := Lib.hid (hma2.owns HO2.out (by simp))
      clear ho2 hm2 hB2 hma2
      go_wp2_with (at_builtin; refine wpList_appR _ rfl _ _ 71 rfl 81 _ 2 24 Try.underlying71 einfo rfl (by decide) W.heap.size _ _ _ rfl HO2a.out _ 1 _ rfl HOn.out (by omega) (by have := HM2.out.size; simp; omega) ?_)
      intro v3 w3 ho3 hm3
      obtain ⟨ao3, co3, rfl, -, -⟩ := owns_shape ho3
      have HO3 := Lib.hid ho3
      have HM3 := Lib.hid ((HM2.out.trans HMa2.out).trans' hm3 (fun y hy => .inr (HO2a.out.lt y (Option.mem_toList.1 hy)).1))
      have HX3 := Lib.hid (HR2.out w3 _ (HE1.out.quiet (HMW.out.trans HM3.out)))
      clear ho3 hm3
      go_wp2_with (at_builtin; refine wpList_appR _ rfl _ _ 71 rfl 81 _ 2 24 Try.underlying71 einfo rfl (by decide) W.heap.size _ _ _ rfl HO3.out _ (es1.length - (0)) _ rfl HX3.out (by omega) HM3.out.size ?_)
      intro v4 w4 ho4 hm4
      obtain ⟨ao4, co4, rfl, -, -⟩ := owns_shape ho4
      have HO4 := Lib.hid ho4
      have HM4 := Lib.hid (HM3.out.trans' hm4 (fun y hy => .inr (HO3.out.lt y (Option.mem_toList.1 hy)).1))
      clear ho4 hm4
      go_wp2_with fail
      go_ret
      have hrow : w4.ownsRow W.heap.size 81 2 (.slice ao4 (0 + 1 + (es1.length - 0)) co4) (0 + 1 + (es1.length - 0)) (entC (es1.take 0 ++ [(s, f)] ++ es1.drop 0)) := by rw [entC_app, entC_app]; simpa [entC] using HO4.out
      have hlen : (es1.take (0) ++ [(s, f)] ++ es1.drop (0)).length = 0 + 1 + (es1.length - (0)) := by
        simp only [List.length_append, List.length_take, List.length_drop, List.length_singleton]; omega
      rw [← hlen] at hrow
      refine ⟨_, es1.take (0) ++ [(s, f)] ++ es1.drop (0), rfl, ?_, by rw [hlen]; omega, ?_, (HM1.out.trans HMW.out).trans HM4.out⟩
      · have hh := RowC.ofOwns hrow entC_one
        unfold Ents
        rw [hlen] at hh ⊢
        first | exact hh | (rw [List.append_assoc]; exact hh)
      · intro y hy
        rcases List.mem_append.1 hy with h1 | h1
        · rcases List.mem_append.1 h1 with h2 | h2
          · exact .inr (HSub.out y (List.mem_of_mem_take h2))
          · exact .inl (List.mem_singleton.1 h2)
        · exact .inr (HSub.out y (List.mem_of_mem_drop h1))
    · obtain ⟨j, rfl⟩ : ∃ j, k = j + 1 := ⟨k - 1, by omega⟩
      obtain ⟨b, o, c', e1, hnc1, i0, i1⟩ := Ents.cells (Ents.mod HE1.out HMr.out (by simp)) j (by omega)
      have hno1 : a1 ≠ none := by rw [Value.slice.injEq] at e1; rw [e1.1]; simp
      have hshape : a1 = some ⟨b, o, none⟩ ∧ c1 = c' := by rw [Value.slice.injEq] at e1; exact ⟨e1.1, e1.2.2⟩
      clear e1
      obtain ⟨rfl, rfl⟩ := hshape
      generalize es1[j]'(by omega) = e at *
      obtain ⟨en, ef⟩ := e
      simp only at i0 i1
      have hwr : IntKind.i64.wrap ((j : Int) + 1 - 1) = (j : Int) := by rw [IntKind.wrap_i64]; omega
      have hwr2 : IntKind.i64.wrap (j : Int) = (j : Int) := by rw [IntKind.wrap_i64]; omega
      have hlt : (j : Int) < (es1.length : Int) := by omega
      have hjk : j + 1 ≤ es1.length := hk
      have hkc : (j : Int) + 1 ≤ (c1 : Int) := by have := RowC.cap HE1.out; omega
      go_wp2_with fail
      go_region_held3 (fun W => W.cell? ⟨w.heap.size, 0, none⟩ = some (.string s) ∧ W.cell? ⟨b, o + j * 2, none⟩ = some (.string en)) (go_keep) (fail)
      have hmW : Mod [] w1 (wr.drew) := HMr.out.drew
      generalize hWx : wr.drew = W at *
      have HMW := Lib.hid hmW
      have r1 := RowC.take (HE1.out.quiet hmW) (j + 1) (by omega)
      rw [entC_take] at r1
      have hcap1 := RowC.cap HE1.out
      obtain ⟨a2, hsl, hr2⟩ := slice_from (P := Try.prog) 71 81 2 Try.underlying71 szEnt (some ⟨b, o, none⟩) es1.length c1 (j + 1) (by omega) hcap1
      rw [show ((j + 1 : Nat) : Int) = (j : Int) + 1 by push_cast; rfl] at hsl
      have HR2 := Lib.hid hr2
      have hBW := hmW.row HB1.out (by simp)
      have HBW := Lib.hid hBW
      have HR1 := Lib.hid r1
      clear r1 hr2 hBW hmW hWx hcap1
      go_wp2_with (at_builtin; refine wpList_appR _ rfl _ _ 71 rfl 81 _ 2 24 Try.underlying71 einfo rfl (by decide) W.heap.size _ 0 [] rfl (World.ownsRow_nil _ _ _ _) _ (j + 1) _ rfl HR1.out (by omega) (Nat.le_refl _) ?_)
      all_goals first
        | (go_roundw
           case rel => exact ⟨j, by go_num, by omega, HMW.out⟩
           case measure => simp [intOf])
        | (skip
           intro v2 w2 ho2 hm2
           simp only [Value.ownBlock, Option.toList_none, Nat.zero_add, List.nil_append] at hm2 ho2
           obtain ⟨ao2, co2, rfl, -, -⟩ := owns_shape ho2
           have HO2 := Lib.hid ho2
           have HM2 := Lib.hid hm2
           have hB2 := hm2.row HBW.out (by simp)
           have q0 : w2.cell? ⟨w.heap.size, 0, none⟩ = some (.string s) := blk_cell hB2 0
           have q1 : w2.cell? ⟨w.heap.size, 1, none⟩ = some (.int .i64 f) := blk_cell hB2 1
           have HOn := Lib.hid (one_ent w2 s f)
           have hma2 : Mod [] w2 (w2.alloc (.cells #[.string s, .int .i64 f] 81)) := (Mod.refl [] w2).alloc _
           have HMa2 := Lib.hid hma2
           have HO2a := Lib.hid (hma2.owns HO2.out (by simp))
           clear ho2 hm2 hB2 hma2
           go_wp2_with (at_builtin; refine wpList_appR _ rfl _ _ 71 rfl 81 _ 2 24 Try.underlying71 einfo rfl (by decide) W.heap.size _ _ _ rfl HO2a.out _ 1 _ rfl HOn.out (by omega) (by have := HM2.out.size; simp; omega) ?_)
           intro v3 w3 ho3 hm3
           obtain ⟨ao3, co3, rfl, -, -⟩ := owns_shape ho3
           have HO3 := Lib.hid ho3
           have HM3 := Lib.hid ((HM2.out.trans HMa2.out).trans' hm3 (fun y hy => .inr (HO2a.out.lt y (Option.mem_toList.1 hy)).1))
           have HX3 := Lib.hid (HR2.out w3 _ (HE1.out.quiet (HMW.out.trans HM3.out)))
           clear ho3 hm3
           go_wp2_with (at_builtin; refine wpList_appR _ rfl _ _ 71 rfl 81 _ 2 24 Try.underlying71 einfo rfl (by decide) W.heap.size _ _ _ rfl HO3.out _ (es1.length - (j + 1)) _ rfl HX3.out (by omega) HM3.out.size ?_)
           intro v4 w4 ho4 hm4
           obtain ⟨ao4, co4, rfl, -, -⟩ := owns_shape ho4
           have HO4 := Lib.hid ho4
           have HM4 := Lib.hid (HM3.out.trans' hm4 (fun y hy => .inr (HO3.out.lt y (Option.mem_toList.1 hy)).1))
           clear ho4 hm4
           go_wp2_with fail
           go_ret
           have hrow := HO4.out
           rw [entC_drop, ← entC_app, ← entC_app] at hrow
           have hlen : (es1.take (j + 1) ++ [(s, f)] ++ es1.drop (j + 1)).length = j + 1 + 1 + (es1.length - (j + 1)) := by
             simp only [List.length_append, List.length_take, List.length_drop, List.length_singleton]; omega
           rw [← hlen] at hrow
           refine ⟨_, es1.take (j + 1) ++ [(s, f)] ++ es1.drop (j + 1), rfl, ?_, by rw [hlen]; omega, ?_, (HM1.out.trans HMW.out).trans HM4.out⟩
           · have hh := RowC.ofOwns hrow entC_one
             unfold Ents
             rw [hlen] at hh ⊢
             first | exact hh | (rw [List.append_assoc]; exact hh)
           · intro y hy
             rcases List.mem_append.1 hy with h1 | h1
             · rcases List.mem_append.1 h1 with h2 | h2
               · exact .inr (HSub.out y (List.mem_of_mem_take h2))
               · exact .inl (List.mem_singleton.1 h2)
             · exact .inr (HSub.out y (List.mem_of_mem_drop h1)))
end Go.Proofs.Ytfcoaafmjllpfaa

/- The document's disk: a turn of names; a text over another. -/
namespace Go.Proofs.Ytfcoaafmjllpfaa
open Go.Shelf Go.ChangeShapes Go.WideShapes Go.ChangeAt Go.RowKit
set_option linter.unusedVariables false
set_option linter.unusedSimpArgs false

theorem findR_mem {es : EntL} {s : ByteArray} (h : 0 ≤ findR es s) : ∃ z ∈ es, z.2 = findR es s := by
  unfold findR at h ⊢
  cases hf : es.find? (fun e => decide (e.1 = s)) with
  | none => rw [hf] at h; simp at h
  | some e => exact ⟨e, List.mem_of_find?_eq_some hf, rfl⟩
/-- names behind a turn: whose files are -/
def DoP (w : World) (es : EntL) (f : Int) (e : Ending) (w' : World) : Prop := ∃ v' es', e = .returned v' ∧ Ents w' v' es' ∧ es'.length ≤ es.length + 1 ∧ (∀ y ∈ es', (0 ≤ f ∧ y.2 = f) ∨ ∃ z ∈ es, y.2 = z.2) ∧ Mod [] w w'
set_option maxRecDepth 100000 in
set_option maxHeartbeats 4000000 in
theorem do_r (w : World) (v : Value) (es : EntL) (h : Ents w v es) (hl : es.length ≤ 1000000) (fr to_ : ByteArray) (f : Int) :
    Calls Try.prog 70 #[v, .agg #[.string fr, .string to_, .int .i64 f]] w (DoP w es f) := by
  obtain ⟨a, c, rfl, hnc, hc, hno, hcs⟩ := h.shape
  have hm0 : Mod [] w (w.alloc (.cells #[.string fr, .string to_, .int .i64 f] 105)) := (Mod.refl [] w).alloc _
  have HM0 := Lib.hid hm0
  have HB0 := Lib.hid (heap_alloc_new w (.cells #[.string fr, .string to_, .int .i64 f] 105))
  have j0 := blk_cell HB0.out 0
  have j1 := blk_cell HB0.out 1
  have j2 := blk_cell HB0.out 2
  have HE := Lib.hid (h.mod hm0 (by simp))
  clear h hcs hm0
  unfold DoP
  go_enter Try.func70, Try.ntmps70
  generalize hw0 : w.alloc (.cells #[.string fr, .string to_, .int .i64 f] 105) = w0 at *
  have HFd := Lib.hid (find_r w0 _ es HE.out (by omega) fr)
  have HWo := Lib.hid (without_r w0 _ es HE.out (by omega) fr)
  by_cases hf : f < 0
  · generalize hk : findR es fr = k at *
    have HK := Lib.hid hk
    clear hk
    by_cases hk0 : k < 0
    · go_wp2_with fail
      refine HFd.out.mono ?_
      rintro e w1 ⟨rfl, rfl⟩
      go_wp2_with fail
      go_ret
      exact ⟨_, es, rfl, HE.out, by omega, fun y hy => .inr ⟨y, hy, rfl⟩, HM0.out⟩
    · have hk1 : 0 ≤ k := by omega
      clear hk0
      go_wp2_with fail
      refine HFd.out.mono ?_
      rintro e w1 ⟨rfl, rfl⟩
      go_wp2_with fail
      refine HWo.out.mono ?_
      rintro e w2 ⟨v2, rfl, ho2, hm2⟩
      obtain ⟨a2, c2, rfl, -, -⟩ := owns_shape ho2
      have hB2 := hm2.row HB0.out (by simp)
      have q1 : w2.cell? ⟨w.heap.size, 1, none⟩ = some (.string to_) := blk_cell hB2 1
      have hl2 : (withoutR es fr).length ≤ es.length := List.length_filter_le _ _
      have HE2 := Lib.hid (OwnE.ents ho2)
      have HM2 := Lib.hid (HM0.out.trans hm2)
      have HSub := Lib.hid (show ∀ y ∈ withoutR es fr, y ∈ es from fun y hy => (List.mem_filter.1 hy).1)
      have HPu := Lib.hid (put_r w2 _ (withoutR es fr) (OwnE.ents ho2) (by omega) to_ k)
      unfold PutP at HPu
      generalize withoutR es fr = es2 at *
      clear ho2 hm2 hB2 j1
      by_cases h0 : to_.size = 0
      · have e5 : to_.toList = [] := toList_nil.2 h0
        have e6 : to_.toList.isEmpty = true := by rw [e5]; rfl
        clear h0
        go_wp2_with fail
        go_ret
        exact ⟨_, es2, rfl, HE2.out, by omega, fun y hy => .inr ⟨y, HSub.out y hy, rfl⟩, HM2.out⟩
      · have e5 : ¬ to_.toList = [] := fun h => h0 (toList_nil.1 h)
        have e6 : to_.toList.isEmpty = false := by rw [Bool.eq_false_iff]; intro h; exact e5 (List.isEmpty_iff.1 h)
        clear h0
        go_wp2_with fail
        refine HPu.out.mono ?_
        rintro e w3 ⟨v3, es3, rfl, hE3, hl3, hsub3, hm3⟩
        obtain ⟨a3, c3, rfl, -⟩ := hE3.shape
        have HE3 := Lib.hid hE3
        have HM3 := Lib.hid hm3
        have HS3 := Lib.hid hsub3
        clear hE3 hm3 hsub3
        go_wp2_with fail
        go_ret
        refine ⟨_, es3, rfl, HE3.out, by omega, fun y hy => ?_, HM2.out.trans HM3.out⟩
        rcases HS3.out y hy with h1 | h1
        · right
          obtain ⟨z, hz, hz2⟩ := findR_mem (es := es) (s := fr) (by rw [HK.out]; exact hk1)
          exact ⟨z, hz, by rw [h1, hz2, HK.out]⟩
        · exact .inr ⟨y, HSub.out y h1, rfl⟩
  · have hf0 : 0 ≤ f := by omega
    have HPu := Lib.hid (put_r w0 _ es HE.out (by omega) to_ f)
    unfold PutP at HPu
    clear hf
    by_cases h0 : to_.size = 0
    · have e5 : to_.toList = [] := toList_nil.2 h0
      have e6 : to_.toList.isEmpty = true := by rw [e5]; rfl
      clear h0
      go_wp2_with fail
      go_ret
      exact ⟨_, es, rfl, HE.out, by omega, fun y hy => .inr ⟨y, hy, rfl⟩, HM0.out⟩
    · have e5 : ¬ to_.toList = [] := fun h => h0 (toList_nil.1 h)
      have e6 : to_.toList.isEmpty = false := by rw [Bool.eq_false_iff]; intro h; exact e5 (List.isEmpty_iff.1 h)
      clear h0
      go_wp2_with fail
      refine HPu.out.mono ?_
      rintro e w3 ⟨v3, es3, rfl, hE3, hl3, hsub3, hm3⟩
      obtain ⟨a3, c3, rfl, -⟩ := hE3.shape
      have HE3 := Lib.hid hE3
      have HM3 := Lib.hid hm3
      have HS3 := Lib.hid hsub3
      clear hE3 hm3 hsub3
      go_wp2_with fail
      go_ret
      refine ⟨_, es3, rfl, HE3.out, by omega, fun y hy => ?_, HM0.out.trans HM3.out⟩
      rcases HS3.out y hy with h1 | h1
      · exact .inl ⟨hf0, by rw [h1]⟩
      · exact .inr ⟨y, h1, rfl⟩
/-- a text over another, from a place within it on -/
theorem over_r (w : World) (s b : ByteArray) (i : Int) (h0 : 0 ≤ i) (h1 : i ≤ s.size) (hs : s.size ≤ 900000) (hb : b.size ≤ 90000) :
    Calls Try.prog 69 #[.string s, .int .i64 i, .string b] w fun e w' => (∃ r : ByteArray, e = .returned (.string r) ∧ r.size ≤ s.size + b.size) ∧ Mod [] w w' := by
  obtain ⟨n, rfl⟩ : ∃ n : Nat, i = n := ⟨i.toNat, by omega⟩
  have hn : n ≤ s.size := by omega
  have hsl : ∀ W, (Instr.slice 9 (.string s) none (some (.int .i64 (n : Int))) none).run Try.prog W = .ok (.string (s.extract 0 n)) W := fun W => by
    rw [Go.run_slice_string_to_if W _ s .i64 _ Try.underlying9, if_pos (by omega)]
    rfl
  have hi : (n : Int) ≤ (s.size : Int) := h1
  have hwr : wrap64 ((n : Int) + (b.size : Int)) = (n : Int) + (b.size : Int) := by unfold wrap64; omega
  have hx : (s.extract 0 n).size = n := by rw [ByteArray.size_extract]; omega
  generalize hp : s.extract 0 n = p at *
  have HP := Lib.hid hx
  have had := add_strP (P := Try.prog) p b (by omega) (by omega)
  by_cases he : (s.size : Int) ≤ (n : Int) + (b.size : Int)
  · go_enter Try.func69, Try.ntmps69
    go_wp2_with fail
    go_ret
    exact ⟨⟨p ++ b, rfl, by rw [ByteArray.size_append, HP.out]; omega⟩, Mod.refl _ _⟩
  · have hsl2 : ∀ W, (Instr.slice 9 (.string s) (some (.int .i64 ((n : Int) + (b.size : Int)))) none none).run Try.prog W = .ok (.string (s.extract (n + b.size) s.size)) W := fun W => by
      rw [Go.run_slice_string_from_if W _ s .i64 _ Try.underlying9, if_pos (by omega)]
      have e1 : ((n : Int) + (b.size : Int)).toNat = n + b.size := by omega
      rw [e1]
    have hy : (s.extract (n + b.size) s.size).size ≤ s.size := by rw [ByteArray.size_extract]; omega
    have hy2 : (s.extract (n + b.size) s.size).size = s.size - (n + b.size) := by rw [ByteArray.size_extract]; omega
    generalize s.extract (n + b.size) s.size = q at *
    have hpb : (p ++ b).size = n + b.size := by rw [ByteArray.size_append, hx]
    have had2 := add_strP (P := Try.prog) (p ++ b) q (by omega) (by omega)
    have HQ := Lib.hid (show (p ++ b ++ q).size ≤ s.size + b.size by rw [ByteArray.size_append, hpb, hy2]; omega)
    generalize p ++ b = pb at *
    clear hy hy2 hpb hp hx
    go_enter Try.func69, Try.ntmps69
    go_wp2_with fail
    go_region_held3 (fun _ => True) (trivial) (fail)
    all_goals
      go_wp2_with fail
      go_ret
      exact ⟨⟨pb ++ q, rfl, HQ.out⟩, by first | exact Mod.refl _ _ | exact (Mod.refl _ _).drew⟩
end Go.Proofs.Ytfcoaafmjllpfaa

/- The document's disk in memory; begin, Find, Used. -/
namespace Go.Proofs.Ytfcoaafmjllpfaa
open Go.Shelf Go.ChangeShapes Go.WideShapes Go.ChangeAt Go.RowKit
set_option linter.unusedVariables false
set_option linter.unusedSimpArgs false

structure FileR where
  now : ByteArray
  sure : ByteArray
  wv : Value
  wn : Nat
  wc : List Value
def fileC (fs : List FileR) : List Value := fs.flatMap fun f => [.string f.now, .string f.sure, f.wv]
theorem fileC_len : ∀ fs : List FileR, (fileC fs).length = fs.length * 3
  | [] => rfl
  | f :: r => by
    have : fileC (f :: r) = .string f.now :: .string f.sure :: f.wv :: fileC r := rfl
    rw [this, List.length_cons, List.length_cons, List.length_cons, fileC_len r, List.length_cons]; omega
theorem fileC_app (a b : List FileR) : fileC (a ++ b) = fileC a ++ fileC b := by simp [fileC]
theorem fileC_get : ∀ {fs : List FileR} {i : Nat} (h : i < fs.length), (fileC fs)[i * 3]? = some (.string fs[i].now) ∧ (fileC fs)[i * 3 + 1]? = some (.string fs[i].sure) ∧ (fileC fs)[i * 3 + 2]? = some fs[i].wv
  | e :: r, 0, _ => ⟨rfl, rfl, rfl⟩
  | e :: r, i + 1, h => by
    have e1 : fileC (e :: r) = .string e.now :: .string e.sure :: e.wv :: fileC r := rfl
    rw [e1, show (i + 1) * 3 = i * 3 + 3 by omega]
    exact fileC_get (fs := r) (i := i) (by simpa using h)
theorem fileC_take : ∀ (fs : List FileR) (i : Nat), (fileC fs).take (i * 3) = fileC (fs.take i)
  | [], i => by simp [fileC]
  | e :: r, 0 => by simp [fileC]
  | e :: r, i + 1 => by
    have e1 : fileC (e :: r) = .string e.now :: .string e.sure :: e.wv :: fileC r := rfl
    have e2 : fileC ((e :: r).take (i + 1)) = .string e.now :: .string e.sure :: e.wv :: fileC (r.take i) := rfl
    rw [e1, e2, show (i + 1) * 3 = i * 3 + 3 by omega, List.take_succ_cons, List.take_succ_cons, List.take_succ_cons, fileC_take r i]
theorem fileC_drop : ∀ (fs : List FileR) (i : Nat), (fileC fs).drop (i * 3) = fileC (fs.drop i)
  | [], i => by simp [fileC]
  | e :: r, 0 => by simp
  | e :: r, i + 1 => by
    have e1 : fileC (e :: r) = .string e.now :: .string e.sure :: e.wv :: fileC r := rfl
    rw [e1, show (i + 1) * 3 = i * 3 + 3 by omega, List.drop_succ_cons, List.drop_succ_cons, List.drop_succ_cons, List.drop_succ_cons, fileC_drop r i]
/-- a disk's own row -/
structure RdV where
  fv : Value
  nv : Value
  sv : Value
  tv : Value
  cap : Int
  dn : Bool
  calls : Int
  fa : Int
  cr : Int
  er : Int
def rdC (r : RdV) : Array Value := #[r.fv, r.nv, r.sv, r.tv, .int .i64 r.cap, .bool r.dn, .int .i64 r.calls, .int .i64 r.fa, .int .i64 r.cr, .int .i64 r.er]
structure FileOkR (w : World) (N : Nat) (f : FileR) : Prop where
  wr : RowC w 110 2 f.wv f.wn f.wc
  wn : f.wn ≤ N
  sz : f.now.size ≤ 200 * N
structure RDat (N : Nat) (w : World) (m : Nat) (r : RdV) (fs : List FileR) (now : EntL) (tn : Nat) (tc : List Value) : Prop where
  row : w.heap[m]? = some (.cells (rdC r) 74 (0, 0))
  files : RowC w 78 3 r.fv fs.length (fileC fs)
  each : ∀ f ∈ fs, FileOkR w N f
  ents : Ents w r.nv now
  waits : RowC w 105 3 r.tv tn tc
  sure : ∃ a n c, r.sv = .slice a n c
  lf : fs.length ≤ N
  ln : now.length ≤ N
  lt : tn ≤ N
  idx : ∀ e ∈ now, 0 ≤ e.2 ∧ e.2 < fs.length
/-- no block that such a disk has -/
def NotR (w : World) (q : Nat) : Prop := ¬ IsT 74 w q ∧ ¬ IsT 78 w q ∧ ¬ IsT 81 w q ∧ ¬ IsT 105 w q ∧ ¬ IsT 110 w q
section
variable {N : Nat} {w w' : World} {m : Nat} {r : RdV} {fs : List FileR} {now : EntL} {tn : Nat} {tc : List Value}
theorem RDat.isM (h : RDat N w m r fs now tn tc) : IsT 74 w m := ⟨_, h.row⟩
theorem RDat.mod {F : List Nat} (h : RDat N w m r fs now tn tc) (hm : Mod F w w') (hF : ∀ q ∈ F, NotR w q) : RDat N w' m r fs now tn tc :=
  ⟨hm.row h.row (fun hq => (hF m hq).1 h.isM), h.files.mod hm (fun q hq => (hF q hq).2.1), fun f hf => ⟨(h.each f hf).wr.mod hm (fun q hq => (hF q hq).2.2.2.2), (h.each f hf).wn, (h.each f hf).sz⟩, RowC.mod h.ents hm (fun q hq => (hF q hq).2.2.1), h.waits.mod hm (fun q hq => (hF q hq).2.2.2.1), h.sure, h.lf, h.ln, h.lt, h.idx⟩
theorem RDat.quiet (h : RDat N w m r fs now tn tc) (hm : Mod [] w w') : RDat N w' m r fs now tn tc := h.mod hm (by simp)
/-- its own row is another -/
theorem RDat.rowed (h : RDat N w m r fs now tn tc) (hm : Mod [m] w w') (r' : RdV) (e1 : r'.fv = r.fv) (e2 : r'.nv = r.nv) (e3 : ∃ a n c, r'.sv = .slice a n c) (e4 : r'.tv = r.tv) (hr : w'.heap[m]? = some (.cells (rdC r') 74 (0, 0))) : RDat N w' m r' fs now tn tc := by
  have hno : ∀ {t : TypeId}, 74 ≠ t → ∀ q ∈ [m], ¬ IsT t w q := fun hne q hq => by
    rw [List.mem_singleton.1 hq]; exact h.isM.ne hne
  exact ⟨hr, by rw [e1]; exact h.files.mod hm (hno (by decide)), fun f hf => ⟨(h.each f hf).wr.mod hm (hno (by decide)), (h.each f hf).wn, (h.each f hf).sz⟩, by rw [e2]; exact RowC.mod h.ents hm (hno (by decide)), by rw [e4]; exact h.waits.mod hm (hno (by decide)), e3, h.lf, h.ln, h.lt, h.idx⟩
theorem RDat.mono {M : Nat} (h : RDat N w m r fs now tn tc) (hN : N ≤ M) : RDat M w m r fs now tn tc :=
  ⟨h.row, h.files, fun f hf => ⟨(h.each f hf).wr, Nat.le_trans (h.each f hf).wn hN, Nat.le_trans (h.each f hf).sz (Nat.mul_le_mul_left _ hN)⟩, h.ents, h.waits, h.sure, Nat.le_trans h.lf hN, Nat.le_trans h.ln hN, Nat.le_trans h.lt hN, h.idx⟩
end
/-- what begin leaves -/
def BegP (N : Nat) (w : World) (m : Nat) (r : RdV) (fs : List FileR) (now : EntL) (tn : Nat) (tc : List Value) (e : Ending) (w' : World) : Prop :=
  ∃ c r', e = .returned (.int .i64 c) ∧ (r'.fv = r.fv ∧ r'.nv = r.nv ∧ r'.sv = r.sv ∧ r'.tv = r.tv ∧ r'.cap = r.cap) ∧ RDat N w' m r' fs now tn tc ∧ Mod [m] w w'
set_option maxRecDepth 100000 in
set_option maxHeartbeats 8000000 in
theorem begin_r (N : Nat) (w : World) (m : Nat) (r : RdV) (fs : List FileR) (now : EntL) (tn : Nat) (tc : List Value) (h : RDat N w m r fs now tn tc) :
    Calls Try.prog 63 #[.pointer (some ⟨m, 0, none⟩)] w (BegP N w m r fs now tn tc) := by
  obtain ⟨fv, nv, sv, tv, cap, dn, calls, fa, cr, er⟩ := r
  have HD := Lib.hid h
  have hrow := h.row
  have k5 : w.cell? ⟨m, 5, none⟩ = some (.bool dn) := blk_cell hrow 5
  have HR := Lib.hid hrow
  obtain ⟨sa, sn, sc, hsv⟩ := h.sure
  simp only at hsv
  subst hsv
  unfold BegP
  clear h hrow
  cases dn with
  | true =>
    go_enter Try.func63, Try.ntmps63
    go_wp2_with fail
    go_ret
    exact ⟨_, _, rfl, ⟨rfl, rfl, rfl, rfl, rfl⟩, HD.out, Mod.refl _ _⟩
  | false =>
    have k6 : w.cell? ⟨m, 6, none⟩ = some (.int .i64 calls) := blk_cell HR.out 6
    have z6 := blk_free HR.out 6
    have HR1 := Lib.hid (blk_set HR.out 6 (.int .i64 (wrap64 (calls + 1))))
    have HM1 := Lib.hid ((mod_set w m 6 (.int .i64 (wrap64 (calls + 1)))).drew)
    have k8 : (w.setCell ⟨m, 6, none⟩ (.int .i64 (wrap64 (calls + 1)))).cell? ⟨m, 8, none⟩ = some (.int .i64 cr) := blk_cell HR1.out 8
    have k7 : (w.setCell ⟨m, 6, none⟩ (.int .i64 (wrap64 (calls + 1)))).cell? ⟨m, 7, none⟩ = some (.int .i64 fa) := blk_cell HR1.out 7
    have k5b : (w.setCell ⟨m, 6, none⟩ (.int .i64 (wrap64 (calls + 1)))).cell? ⟨m, 5, none⟩ = some (.bool false) := blk_cell HR1.out 5
    have k9 : (w.setCell ⟨m, 6, none⟩ (.int .i64 (wrap64 (calls + 1)))).cell? ⟨m, 9, none⟩ = some (.int .i64 er) := blk_cell HR1.out 9
    have z5 := blk_free HR1.out 5
    have z7 := blk_free HR1.out 7
    have z8 := blk_free HR1.out 8
    go_enter Try.func63, Try.ntmps63
    go_wp2_with fail
    go_region_held3 (fun W => W.cell? ⟨m, 8, none⟩ = some (.int .i64 cr) ∧ W.cell? ⟨m, 7, none⟩ = some (.int .i64 fa)) (go_keep) (fail)
    have hW : ∃ W1, (w.setCell ⟨m, 6, none⟩ (.int .i64 (wrap64 (calls + 1)))).drew = W1 := ⟨_, rfl⟩
    obtain ⟨W1, hW1⟩ := hW
    have hrow1 : W1.heap[m]? = some (.cells (rdC ⟨fv, nv, .slice sa sn sc, tv, cap, false, wrap64 (calls + 1), fa, cr, er⟩) 74 (0, 0)) := by rw [← hW1]; exact blk_drew HR1.out
    rw [hW1] at HM1 ⊢
    clear k8 k7 k5b k9 z5 z7 z8 HR1 k6 z6 k5 hW1
    have k8 : W1.cell? ⟨m, 8, none⟩ = some (.int .i64 cr) := blk_cell hrow1 8
    have k7 : W1.cell? ⟨m, 7, none⟩ = some (.int .i64 fa) := blk_cell hrow1 7
    have k5 : W1.cell? ⟨m, 5, none⟩ = some (.bool false) := blk_cell hrow1 5
    have k9 : W1.cell? ⟨m, 9, none⟩ = some (.int .i64 er) := blk_cell hrow1 9
    have z5 := blk_free hrow1 5
    have z7 := blk_free hrow1 7
    have z8 := blk_free hrow1 8
    have HR1 := Lib.hid hrow1
    clear hrow1
    have q1 : cr < 0 ∨ (cr == 0) = true ∨ 0 < cr := by rcases Int.lt_trichotomy cr 0 with h | h | h; exact .inl h; exact .inr (.inl (by simp [h])); exact .inr (.inr h)
    have q2 : fa < 0 ∨ (fa == 0) = true ∨ 0 < fa := by rcases Int.lt_trichotomy fa 0 with h | h | h; exact .inl h; exact .inr (.inl (by simp [h])); exact .inr (.inr h)
    rcases q1 with h1 | h1 | h1
    all_goals rcases q2 with h2 | h2 | h2
    all_goals
      have b1 : decide (0 ≤ cr) = true ∨ decide (0 ≤ cr) = false := by cases decide (0 ≤ cr) <;> simp
      go_wp2_with fail
      all_goals
        go_ret
        first
          | exact ⟨_, ⟨fv, nv, .slice sa sn sc, tv, cap, false, wrap64 (calls + 1), fa, cr, er⟩, rfl, ⟨rfl, rfl, rfl, rfl, rfl⟩, HD.out.rowed HM1.out _ rfl rfl ⟨_, _, _, rfl⟩ rfl HR1.out, HM1.out⟩
          | exact ⟨_, ⟨fv, nv, .slice sa sn sc, tv, cap, false, wrap64 (calls + 1), fa, (wrap64 (cr - 1)), er⟩, rfl, ⟨rfl, rfl, rfl, rfl, rfl⟩, HD.out.rowed (HM1.out.trans (mod_set W1 m 8 (.int .i64 (wrap64 (cr - 1))))) _ rfl rfl ⟨_, _, _, rfl⟩ rfl (blk_set HR1.out 8 (.int .i64 (wrap64 (cr - 1)))), (HM1.out.trans (mod_set W1 m 8 (.int .i64 (wrap64 (cr - 1)))))⟩
          | exact ⟨_, ⟨fv, nv, .slice sa sn sc, tv, cap, false, wrap64 (calls + 1), (wrap64 (fa - 1)), cr, er⟩, rfl, ⟨rfl, rfl, rfl, rfl, rfl⟩, HD.out.rowed (HM1.out.trans (mod_set W1 m 7 (.int .i64 (wrap64 (fa - 1))))) _ rfl rfl ⟨_, _, _, rfl⟩ rfl (blk_set HR1.out 7 (.int .i64 (wrap64 (fa - 1)))), (HM1.out.trans (mod_set W1 m 7 (.int .i64 (wrap64 (fa - 1)))))⟩
          | exact ⟨_, ⟨fv, nv, .slice sa sn sc, tv, cap, false, wrap64 (calls + 1), (wrap64 (fa - 1)), (wrap64 (cr - 1)), er⟩, rfl, ⟨rfl, rfl, rfl, rfl, rfl⟩, HD.out.rowed ((HM1.out.trans (mod_set W1 m 8 (.int .i64 (wrap64 (cr - 1))))).trans (mod_set (W1.setCell ⟨m, 8, none⟩ (.int .i64 (wrap64 (cr - 1)))) m 7 (.int .i64 (wrap64 (fa - 1))))) _ rfl rfl ⟨_, _, _, rfl⟩ rfl (blk_set (blk_set HR1.out 8 (.int .i64 (wrap64 (cr - 1)))) 7 (.int .i64 (wrap64 (fa - 1)))), ((HM1.out.trans (mod_set W1 m 8 (.int .i64 (wrap64 (cr - 1))))).trans (mod_set (W1.setCell ⟨m, 8, none⟩ (.int .i64 (wrap64 (cr - 1)))) m 7 (.int .i64 (wrap64 (fa - 1)))))⟩
          | exact ⟨_, ⟨fv, nv, .slice sa sn sc, tv, cap, true, wrap64 (calls + 1), fa, (wrap64 (cr - 1)), er⟩, rfl, ⟨rfl, rfl, rfl, rfl, rfl⟩, HD.out.rowed ((HM1.out.trans (mod_set W1 m 8 (.int .i64 (wrap64 (cr - 1))))).trans (mod_set (W1.setCell ⟨m, 8, none⟩ (.int .i64 (wrap64 (cr - 1)))) m 5 (.bool true))) _ rfl rfl ⟨_, _, _, rfl⟩ rfl (blk_set (blk_set HR1.out 8 (.int .i64 (wrap64 (cr - 1)))) 5 (.bool true)), ((HM1.out.trans (mod_set W1 m 8 (.int .i64 (wrap64 (cr - 1))))).trans (mod_set (W1.setCell ⟨m, 8, none⟩ (.int .i64 (wrap64 (cr - 1)))) m 5 (.bool true)))⟩
          | exact ⟨_, ⟨fv, nv, .slice sa sn sc, tv, cap, true, wrap64 (calls + 1), (wrap64 (fa - 1)), (wrap64 (cr - 1)), er⟩, rfl, ⟨rfl, rfl, rfl, rfl, rfl⟩, HD.out.rowed (((HM1.out.trans (mod_set W1 m 8 (.int .i64 (wrap64 (cr - 1))))).trans (mod_set (W1.setCell ⟨m, 8, none⟩ (.int .i64 (wrap64 (cr - 1)))) m 7 (.int .i64 (wrap64 (fa - 1))))).trans (mod_set ((W1.setCell ⟨m, 8, none⟩ (.int .i64 (wrap64 (cr - 1)))).setCell ⟨m, 7, none⟩ (.int .i64 (wrap64 (fa - 1)))) m 5 (.bool true))) _ rfl rfl ⟨_, _, _, rfl⟩ rfl (blk_set (blk_set (blk_set HR1.out 8 (.int .i64 (wrap64 (cr - 1)))) 7 (.int .i64 (wrap64 (fa - 1)))) 5 (.bool true)), (((HM1.out.trans (mod_set W1 m 8 (.int .i64 (wrap64 (cr - 1))))).trans (mod_set (W1.setCell ⟨m, 8, none⟩ (.int .i64 (wrap64 (cr - 1)))) m 7 (.int .i64 (wrap64 (fa - 1))))).trans (mod_set ((W1.setCell ⟨m, 8, none⟩ (.int .i64 (wrap64 (cr - 1)))).setCell ⟨m, 7, none⟩ (.int .i64 (wrap64 (fa - 1)))) m 5 (.bool true)))⟩
end Go.Proofs.Ytfcoaafmjllpfaa

/- The document's disk: Find, Used, turn. -/
namespace Go.Proofs.Ytfcoaafmjllpfaa
open Go.Shelf Go.ChangeShapes Go.WideShapes Go.ChangeAt Go.RowKit
set_option linter.unusedVariables false
set_option linter.unusedSimpArgs false

theorem tinfo : (Try.prog.info? 105).map (fun i => (i.zero, i.size, i.bytes)) = some (some (.agg #[.string ByteArray.empty, .string ByteArray.empty, .int .i64 0]), 3, 40) := by kernel_rfl
theorem flinfo : (Try.prog.info? 78).map (fun i => (i.zero, i.size, i.bytes)) = some (some (.agg #[.string ByteArray.empty, .string ByteArray.empty, .slice none 0 0]), 3, 56) := by kernel_rfl
theorem winfoR : (Try.prog.info? 110).map (fun i => (i.zero, i.size, i.bytes)) = some (some (.agg #[.int .i64 0, .string ByteArray.empty]), 2, 24) := by kernel_rfl
theorem szFile : ∀ w, (Go.sizeOf 78).run Try.prog w = .ok 3 w := fun w => by kernel_rfl
section
variable {N : Nat} {w : World} {m : Nat} {r : RdV} {fs : List FileR} {now : EntL} {tn : Nat} {tc : List Value}
set_option maxHeartbeats 1000000 in
theorem findM_r (h : RDat N w m r fs now tn tc) (hN : N ≤ 100000) (s : ByteArray) :
    Calls Try.prog 64 #[.pointer (some ⟨m, 0, none⟩), .string s] w fun e w' => e = .returned (.int .i64 (findR now s)) ∧ w' = w := by
  have HF := Lib.hid (find_r w r.nv now h.ents (by have := h.ln; omega) s)
  obtain ⟨a, c, e1, -⟩ := h.ents.shape
  have k1 : w.cell? ⟨m, 1, none⟩ = some r.nv := blk_cell h.row 1
  rw [e1] at k1 HF
  clear h e1
  generalize findR now s = k at *
  go_enter Try.func64, Try.ntmps64
  go_wp2_with fail
  refine HF.out.mono ?_
  rintro e w1 ⟨rfl, rfl⟩
  go_wp2_with fail
  go_ret
  exact ⟨rfl, rfl⟩
theorem FilesR_cells (h : RDat N w m r fs now tn tc) (i : Nat) (hi : i < fs.length) : ∃ b o c, r.fv = .slice (some ⟨b, o, none⟩) fs.length c ∧ fs.length ≤ c ∧ w.cell? ⟨b, o + i * 3, none⟩ = some (.string fs[i].now) ∧ w.cell? ⟨b, o + i * 3 + 1, none⟩ = some (.string fs[i].sure) ∧ w.cell? ⟨b, o + i * 3 + 2, none⟩ = some fs[i].wv := by
  obtain ⟨b, o, c, e, hn, -, -, hc⟩ := RowC.at h.files (by decide) (by omega)
  have hl := fileC_len fs
  obtain ⟨g1, g2, g3⟩ := fileC_get hi
  have c1 := hc (i * 3) (by rw [hl]; omega)
  have c2 := hc (i * 3 + 1) (by rw [hl]; omega)
  have c3 := hc (i * 3 + 2) (by rw [hl]; omega)
  refine ⟨b, o, c, e, hn, ?_, ?_, ?_⟩
  · rw [c1, ← List.getElem?_eq_getElem, g1]
  · rw [Nat.add_assoc, c2, ← List.getElem?_eq_getElem, g2]
  · rw [Nat.add_assoc, c3, ← List.getElem?_eq_getElem, g3]
set_option maxRecDepth 100000 in
set_option maxHeartbeats 4000000 in
theorem used_r (h : RDat N w m r fs now tn tc) (hN : N ≤ 100000) :
    Calls Try.prog 76 #[.pointer (some ⟨m, 0, none⟩)] w fun e w' => (∃ u, e = .returned (.int .i64 u)) ∧ Mod [] w w' := by
  have HD := Lib.hid h
  obtain ⟨an, cn, en, -⟩ := h.ents.shape
  have hnl := h.ln
  clear h
  go_enter Try.func76, Try.ntmps76
  go_wp2_with fail
  go_loopw [3, 4] (fun uu i wr => ∃ (k : Nat) (u : Int), i = .int .i64 k ∧ uu = .int .i64 u ∧ k ≤ now.length ∧ Mod [] w wr) (fun _ i _ => (now.length - intOf i).toNat)
  case atStart => exact ⟨0, 0, rfl, rfl, Nat.zero_le _, Mod.refl _ _⟩
  case round =>
    obtain ⟨k, u, rfl, rfl, hk, hm⟩ := hrel
    have HM := Lib.hid hm
    have hD := HD.out.quiet hm
    have k1 : wr.cell? ⟨m, 1, none⟩ = some (.slice an now.length cn) := by rw [← en]; exact blk_cell hD.row 1
    clear hm
    by_cases hlt : k < now.length
    · obtain ⟨b, o, c', e1, hnc, j0, j1⟩ := Ents.cells hD.ents k hlt
      rw [en] at e1
      simp only [Value.slice.injEq] at e1
      obtain ⟨rfl, -, rfl⟩ := e1
      obtain ⟨x0, x1⟩ := hD.idx (now[k]'hlt) (List.getElem_mem hlt)
      generalize now[k]'hlt = e at *
      obtain ⟨ens, ef⟩ := e
      simp only at j0 j1 x0 x1
      obtain ⟨q, rfl⟩ : ∃ q : Nat, ef = q := ⟨ef.toNat, by omega⟩
      obtain ⟨fb, fo, fc, fe, hfc, f0, f1, f2⟩ := FilesR_cells hD q (by omega)
      have k0 : wr.cell? ⟨m, 0, none⟩ = some (.slice (some ⟨fb, fo, none⟩) fs.length fc) := by rw [← fe]; exact blk_cell hD.row 0
      have hq : (q : Int) < (fs.length : Int) := x1
      generalize fs[q]'(by omega) = f at *
      obtain ⟨fnow, fsure, fwv, fwn, fwc⟩ := f
      simp only at f0
      clear f1 f2 hD x0 x1
      go_wp2_with fail
      go_region_held3 (fun W => W.cell? ⟨m, 0, none⟩ = some (.slice (some ⟨fb, fo, none⟩) fs.length fc) ∧ W.cell? ⟨m, 1, none⟩ = some (.slice (some ⟨b, o, none⟩) now.length cn) ∧ W.cell? ⟨b, o + k * 2 + 1, none⟩ = some (.int .i64 q) ∧ W.cell? ⟨fb, fo + q * 3, none⟩ = some (.string fnow)) (go_keep) (fail)
      all_goals
        go_wp2_with fail
        go_roundw
        case rel => exact ⟨k + 1, _, by go_num, rfl, by omega, by first | exact HM.out | exact HM.out.drew⟩
        case measure => simp [intOf]; omega
    · have : k = now.length := by omega
      subst this
      clear hD
      go_wp2_with fail
      go_ret
      exact ⟨⟨u, rfl⟩, HM.out⟩
end
end Go.Proofs.Ytfcoaafmjllpfaa

/- The document's disk: turn, with. -/
namespace Go.Proofs.Ytfcoaafmjllpfaa
open Go.Shelf Go.ChangeShapes Go.WideShapes Go.ChangeAt Go.RowKit
set_option linter.unusedVariables false
set_option linter.unusedSimpArgs false

/-- a disk again, its files as many as they were -/
def StepP (N M : Nat) (w : World) (m : Nat) (n : Nat) (w' : World) : Prop := (∃ r' fs' now' tn' tc', RDat M w' m r' fs' now' tn' tc' ∧ fs'.length = n) ∧ Mod [m] w w'
section
variable {N : Nat} {w : World} {m : Nat} {r : RdV} {fs : List FileR} {now : EntL} {tn : Nat} {tc : List Value}
set_option maxRecDepth 100000 in
set_option maxHeartbeats 8000000 in
theorem turn_r (h : RDat N w m r fs now tn tc) (hN : N ≤ 100000) (fr to_ : ByteArray) (f : Int) (hf : f < fs.length) :
    Calls Try.prog 65 #[.pointer (some ⟨m, 0, none⟩), .agg #[.string fr, .string to_, .int .i64 f]] w fun e w' => e = .returned (.tuple #[]) ∧ StepP N (N + 1) w m fs.length w' := by
  obtain ⟨fv, nv, sv, tv, cap, dn, calls, fa, cr, er⟩ := r
  obtain ⟨sa, sn, sc, hsv⟩ := h.sure
  obtain ⟨ta, tcp, htv, -⟩ := h.waits.shape
  obtain ⟨na, ncp, hnv, -⟩ := h.ents.shape
  simp only at hsv htv hnv
  subst hsv htv hnv
  have hm0 : Mod [] w (w.alloc (.cells #[.string fr, .string to_, .int .i64 f] 105)) := (Mod.refl [] w).alloc _
  have HM0 := Lib.hid hm0
  have HB0 := Lib.hid (heap_alloc_new w (.cells #[.string fr, .string to_, .int .i64 f] 105))
  have hmlt := blk_lt h.row
  have hD0 := h.quiet hm0
  have HD0 := Lib.hid hD0
  have k3 : (w.alloc (.cells #[.string fr, .string to_, .int .i64 f] 105)).cell? ⟨m, 3, none⟩ = some (.slice ta tn tcp) := blk_cell hD0.row 3
  have HH := Lib.hid h
  have hlt := h.lt
  have HFl := Lib.hid hf
  clear h hm0 hD0 hf
  unfold StepP
  go_enter Try.func65, Try.ntmps65
  generalize hw0 : w.alloc (.cells #[.string fr, .string to_, .int .i64 f] 105) = w0 at *
  have hw0s : w0.heap.size = w.heap.size + 1 := by rw [← hw0]; simp
  have HW0 := Lib.hid hw0s
  clear hw0s
  go_wp2_with (at_builtin; refine wpList_appR _ rfl _ _ 72 rfl 105 _ 3 40 Try.underlying72 tinfo rfl (by decide) w0.heap.size _ 0 [] rfl (World.ownsRow_nil _ _ _ _) _ tn tc rfl HD0.out.waits (by omega) (Nat.le_refl _) ?_)
  intro v2 w2 ho2 hm2
  simp only [Value.ownBlock, Option.toList_none, Nat.zero_add, List.nil_append] at hm2 ho2
  obtain ⟨ao2, co2, rfl, -, -⟩ := owns_shape ho2
  have hB2 := hm2.row HB0.out (by simp)
  have q0 : w2.cell? ⟨w.heap.size, 0, none⟩ = some (.string fr) := blk_cell hB2 0
  have q1 : w2.cell? ⟨w.heap.size, 1, none⟩ = some (.string to_) := blk_cell hB2 1
  have q2 : w2.cell? ⟨w.heap.size, 2, none⟩ = some (.int .i64 f) := blk_cell hB2 2
  have HOn := Lib.hid (one_row w2 105 #[.string fr, .string to_, .int .i64 f] (by intro u hu; simp at hu; rcases hu with rfl | rfl | rfl <;> rfl))
  have hma2 : Mod [] w2 (w2.alloc (.cells #[.string fr, .string to_, .int .i64 f] 105)) := (Mod.refl [] w2).alloc _
  have HMa2 := Lib.hid hma2
  have HO2a := Lib.hid (hma2.owns ho2 (by simp))
  have HM2 := Lib.hid hm2
  clear ho2 hm2 hma2 hB2 k3
  go_wp2_with (at_builtin; refine wpList_appR _ rfl _ _ 72 rfl 105 _ 3 40 Try.underlying72 tinfo rfl (by decide) w0.heap.size _ _ _ rfl HO2a.out _ 1 _ rfl HOn.out (by omega) (by have := HM2.out.size; simp; omega) ?_)
  intro v3 w3 ho3 hm3
  obtain ⟨ao3, co3, rfl, -, -⟩ := owns_shape ho3
  have hm03 : Mod [] w0 w3 := (HM2.out.trans HMa2.out).trans' hm3 (fun y hy => .inr (HO2a.out.lt y (Option.mem_toList.1 hy)).1)
  have hD3 := HD0.out.quiet hm03
  have z3 := blk_free hD3.row 3
  have k3 := blk_cell hD3.row 3
  have HD3 := Lib.hid hD3
  have HO3 := Lib.hid ho3
  have HM03 := Lib.hid hm03
  have hms : Mod [m] w3 (w3.setCell ⟨m, 3, none⟩ (.slice ao3 (tn + 1) co3)) := mod_set w3 m 3 _
  have HMs := Lib.hid hms
  have hB3 := hm03.row HB0.out (by simp)
  have hne : w.heap.size ≠ m := by omega
  have hB4 := hms.row hB3 (by simp; exact hne)
  have hr4 := blk_set hD3.row 3 (.slice ao3 (tn + 1) co3)
  have p0 : (w3.setCell ⟨m, 3, none⟩ (.slice ao3 (tn + 1) co3)).cell? ⟨w.heap.size, 0, none⟩ = some (.string fr) := blk_cell hB4 0
  have p1 : (w3.setCell ⟨m, 3, none⟩ (.slice ao3 (tn + 1) co3)).cell? ⟨w.heap.size, 1, none⟩ = some (.string to_) := blk_cell hB4 1
  have p2 : (w3.setCell ⟨m, 3, none⟩ (.slice ao3 (tn + 1) co3)).cell? ⟨w.heap.size, 2, none⟩ = some (.int .i64 f) := blk_cell hB4 2
  have p3 : (w3.setCell ⟨m, 3, none⟩ (.slice ao3 (tn + 1) co3)).cell? ⟨m, 1, none⟩ = some (.slice na now.length ncp) := blk_cell hr4 1
  have hE4 : Ents (w3.setCell ⟨m, 3, none⟩ (.slice ao3 (tn + 1) co3)) (.slice na now.length ncp) now := Ents.mod hD3.ents hms (fun x hx => by rw [List.mem_singleton.1 hx]; exact hD3.isM.ne (by decide))
  have HDo := Lib.hid (fun W (hm : Mod [] (w3.setCell ⟨m, 3, none⟩ (.slice ao3 (tn + 1) co3)) W) => do_r W _ now (RowC.quiet hE4 hm) (by have := HH.out.ln; omega) fr to_ f)
  have HR4 := Lib.hid hr4
  clear ho3 hm3 hm03 hD3 hms hB3 hB4 hr4 hE4 q0 q1 q2
  go_wp2_with fail
  generalize hW4 : w3.setCell ⟨m, 3, none⟩ (.slice ao3 (tn + 1) co3) = W4 at *
  go_region_with (first
    | (go_at_call 70; refine (HDo.out _ ((Mod.refl [] _).drew)).mono ?_; rintro e w5 ⟨v5, es5, rfl, hE5, hl5, hs5, hm5⟩; obtain ⟨a5, c5, rfl, -⟩ := hE5.shape; have hr5 := hm5.row (blk_drew HR4.out) (by simp); have z1 := blk_free hr5 1; have u1 := blk_cell hr5 1; have HR5 := Lib.hid hr5; have HE5 := Lib.hid hE5; have HS5 := Lib.hid hs5; have HM5 := Lib.hid hm5; clear hE5 hs5 hm5 hr5))
  all_goals
    go_wp2_with fail
    go_end0
    refine And.intro rfl ?_
    have hm4 : Mod [m] w0 W4 := (HM03.out.mono (by simp)).trans HMs.out
    have hm5 := (hm4.drew).trans (HM5.out.mono (by simp))
    have hm6 := hm5.trans (mod_set w5 m 1 (.slice a5 es5.length c5))
    have hr6 := blk_set HR5.out 1 (.slice a5 es5.length c5)
    have hD0 := HD0.out
    have hno : ∀ {t : TypeId}, 74 ≠ t → ∀ q ∈ [m], ¬ IsT t w0 q := fun hne q hq => by
      rw [List.mem_singleton.1 hq]; exact hD0.isM.ne hne
    have hm36 : Mod [m] w3 (w5.setCell ⟨m, 1, none⟩ (.slice a5 es5.length c5)) := by
      have h1 : Mod [m] w3 W4 := HMs.out
      exact ((h1.drew).trans (HM5.out.mono (by simp))).trans (mod_set w5 m 1 _)
    have hwt := RowC.ofOwns HO3.out (by
      intro u hu
      rcases List.mem_append.1 hu with h1 | h1
      · exact hD0.waits.one u h1
      · simp at h1; rcases h1 with rfl | rfl | rfl <;> rfl)
    have hm5m : IsT 74 w5 m := ⟨_, HR5.out⟩
    refine ⟨⟨⟨fv, .slice a5 es5.length c5, .slice sa sn sc, .slice ao3 (tn + 1) co3, cap, dn, calls, fa, cr, er⟩, fs, es5, tn + 1, tc ++ [.string fr, .string to_, .int .i64 f], ⟨hr6, hD0.files.mod hm6 (hno (by decide)), fun f hf => ⟨(hD0.each f hf).wr.mod hm6 (hno (by decide)), Nat.le_succ_of_le (hD0.each f hf).wn, by have := (hD0.each f hf).sz; omega⟩, ?_, ?_, ⟨_, _, _, rfl⟩, Nat.le_succ_of_le hD0.lf, by have := hD0.ln; omega, by have := hD0.lt; omega, ?_⟩, rfl⟩, (HM0.out.mono (by simp)).trans hm6⟩
    · exact Ents.mod HE5.out (mod_set w5 m 1 _) (fun x hx => by rw [List.mem_singleton.1 hx]; exact hm5m.ne (by decide))
    · exact hwt.mod hm36 (fun x hx => by rw [List.mem_singleton.1 hx]; exact (HD3.out.isM).ne (by decide))
    · intro y hy
      rcases HS5.out y hy with ⟨h1, h2⟩ | ⟨z, hz, h2⟩
      · rw [h2]; exact ⟨h1, HFl.out⟩
      · rw [h2]; exact hD0.idx z hz
end
end Go.Proofs.Ytfcoaafmjllpfaa

/- The document's disk: with. -/
namespace Go.Proofs.Ytfcoaafmjllpfaa
open Go.Shelf Go.ChangeShapes Go.WideShapes Go.ChangeAt Go.RowKit
set_option linter.unusedVariables false
set_option linter.unusedSimpArgs false

section
variable {N : Nat} {w : World} {m : Nat} {r : RdV} {fs : List FileR} {now : EntL} {tn : Nat} {tc : List Value}
set_option maxRecDepth 100000 in
set_option maxHeartbeats 8000000 in
theorem with_r (h : RDat N w m r fs now tn tc) (hN : N ≤ 100000) (i : Nat) (hi : i < fs.length) (fnow fsure : ByteArray) (wa : Option Addr) (wn wcap : Nat) (wc : List Value) (hf : FileOkR w N ⟨fnow, fsure, .slice wa wn wcap, wn, wc⟩) :
    Calls Try.prog 67 #[.pointer (some ⟨m, 0, none⟩), .int .i64 i, .agg #[.string fnow, .string fsure, .slice wa wn wcap]] w fun e w' => e = .returned (.tuple #[]) ∧ StepP N N w m fs.length w' := by
  obtain ⟨fv, nv, sv, tv, cap, dn, calls, fa, cr, er⟩ := r
  obtain ⟨sa, sn, sc, hsv⟩ := h.sure
  obtain ⟨la, lcp, hfv, hlc, -⟩ := h.files.shape
  simp only at hsv hfv
  subst hsv hfv
  have hm0 : Mod [] w (w.alloc (.cells #[.string fnow, .string fsure, .slice wa wn wcap] 78)) := (Mod.refl [] w).alloc _
  have HM0 := Lib.hid hm0
  have HB0 := Lib.hid (heap_alloc_new w (.cells #[.string fnow, .string fsure, .slice wa wn wcap] 78))
  have hmlt := blk_lt h.row
  have hD0 := h.quiet hm0
  have HD0 := Lib.hid hD0
  have k0 : (w.alloc (.cells #[.string fnow, .string fsure, .slice wa wn wcap] 78)).cell? ⟨m, 0, none⟩ = some (.slice la fs.length lcp) := blk_cell hD0.row 0
  have hlf := h.lf
  have HFo := Lib.hid (show FileOkR (w.alloc (.cells #[.string fnow, .string fsure, .slice wa wn wcap] 78)) N ⟨fnow, fsure, .slice wa wn wcap, wn, wc⟩ from ⟨hf.wr.quiet hm0, hf.wn, hf.sz⟩)
  have r1 := RowC.take hD0.files i (by omega)
  rw [fileC_take] at r1
  have HT1 := Lib.hid r1
  obtain ⟨a2, hsl, hr2⟩ := slice_from (P := Try.prog) 70 78 3 Try.underlying70 szFile la fs.length lcp (i + 1) (by omega) hlc
  rw [show ((i + 1 : Nat) : Int) = (i : Int) + 1 by push_cast; rfl] at hsl
  have HR2 := Lib.hid hr2
  have hic : (i : Int) ≤ (lcp : Int) := by omega
  have hwr : wrap64 ((i : Int) + 1) = (i : Int) + 1 := by unfold wrap64; omega
  clear h hm0 hD0 hf r1 hr2
  unfold StepP
  go_enter Try.func67, Try.ntmps67
  generalize hw0 : w.alloc (.cells #[.string fnow, .string fsure, .slice wa wn wcap] 78) = w0 at *
  have hw0s : w0.heap.size = w.heap.size + 1 := by rw [← hw0]; simp
  have HW0 := Lib.hid hw0s
  clear hw0s
  go_wp2_with (at_builtin; refine wpList_appR _ rfl _ _ 70 rfl 78 _ 3 56 Try.underlying70 flinfo rfl (by decide) w0.heap.size _ 0 [] rfl (World.ownsRow_nil _ _ _ _) _ i _ rfl HT1.out (by omega) (Nat.le_refl _) ?_)
  intro v2 w2 ho2 hm2
  simp only [Value.ownBlock, Option.toList_none, Nat.zero_add, List.nil_append] at hm2 ho2
  obtain ⟨ao2, co2, rfl, -, -⟩ := owns_shape ho2
  have hB2 := hm2.row HB0.out (by simp)
  have q0 : w2.cell? ⟨w.heap.size, 0, none⟩ = some (.string fnow) := blk_cell hB2 0
  have q1 : w2.cell? ⟨w.heap.size, 1, none⟩ = some (.string fsure) := blk_cell hB2 1
  have q2 : w2.cell? ⟨w.heap.size, 2, none⟩ = some (.slice wa wn wcap) := blk_cell hB2 2
  have HOn := Lib.hid (one_row w2 78 #[.string fnow, .string fsure, .slice wa wn wcap] (by intro u hu; simp at hu; rcases hu with rfl | rfl | rfl <;> rfl))
  have hma2 : Mod [] w2 (w2.alloc (.cells #[.string fnow, .string fsure, .slice wa wn wcap] 78)) := (Mod.refl [] w2).alloc _
  have HMa2 := Lib.hid hma2
  have HO2a := Lib.hid (hma2.owns ho2 (by simp))
  have HM2 := Lib.hid hm2
  clear ho2 hm2 hma2 hB2 k0
  go_wp2_with (at_builtin; refine wpList_appR _ rfl _ _ 70 rfl 78 _ 3 56 Try.underlying70 flinfo rfl (by decide) w0.heap.size _ _ _ rfl HO2a.out _ 1 _ rfl HOn.out (by omega) (by have := HM2.out.size; simp; omega) ?_)
  intro v3 w3 ho3 hm3
  obtain ⟨ao3, co3, rfl, -, -⟩ := owns_shape ho3
  have hm03 : Mod [] w0 w3 := (HM2.out.trans HMa2.out).trans' hm3 (fun y hy => .inr (HO2a.out.lt y (Option.mem_toList.1 hy)).1)
  have hD3 := HD0.out.quiet hm03
  have k0 : w3.cell? ⟨m, 0, none⟩ = some (.slice la fs.length lcp) := blk_cell hD3.row 0
  have HX3 := Lib.hid (HR2.out w3 _ hD3.files)
  have HO3 := Lib.hid ho3
  have HM03 := Lib.hid hm03
  clear ho3 hm3 hD3 hm03 q0 q1 q2
  go_wp2_with (at_builtin; refine wpList_appR _ rfl _ _ 70 rfl 78 _ 3 56 Try.underlying70 flinfo rfl (by decide) w0.heap.size _ _ _ rfl HO3.out _ (fs.length - (i + 1)) _ rfl HX3.out (by omega) HM03.out.size ?_)
  intro v4 w4 ho4 hm4
  obtain ⟨ao4, co4, rfl, -, -⟩ := owns_shape ho4
  have hm04 : Mod [] w0 w4 := HM03.out.trans' hm4 (fun y hy => .inr (HO3.out.lt y (Option.mem_toList.1 hy)).1)
  have hD4 := HD0.out.quiet hm04
  have k0 := blk_cell hD4.row 0
  have z0 := blk_free hD4.row 0
  have HD4 := Lib.hid hD4
  have HO4 := Lib.hid ho4
  have HM04 := Lib.hid hm04
  clear ho4 hm4 hD4 hm04
  go_wp2_with fail
  go_end0
  refine And.intro rfl ?_
  have hrow := HO4.out
  rw [fileC_drop] at hrow
  have hms := mod_set w4 m 0 (.slice ao4 (i + 1 + (fs.length - (i + 1))) co4)
  have hno : ∀ {t : TypeId}, 74 ≠ t → ∀ q ∈ [m], ¬ IsT t w4 q := fun hne q hq => by
    rw [List.mem_singleton.1 hq]; exact HD4.out.isM.ne hne
  have hcells : fileC (fs.take i) ++ [.string fnow, .string fsure, .slice wa wn wcap] ++ fileC (fs.drop (i + 1)) = fileC (fs.take i ++ [⟨fnow, fsure, .slice wa wn wcap, wn, wc⟩] ++ fs.drop (i + 1)) := by
    rw [fileC_app, fileC_app]; rfl
  have hlen : (fs.take i ++ [(⟨fnow, fsure, .slice wa wn wcap, wn, wc⟩ : FileR)] ++ fs.drop (i + 1)).length = i + 1 + (fs.length - (i + 1)) := by
    simp only [List.length_append, List.length_take, List.length_drop, List.length_singleton]; omega
  have hlen2 : i + 1 + (fs.length - (i + 1)) = fs.length := by omega
  have hrw : RowC w4 78 3 (.slice ao4 (i + 1 + (fs.length - (i + 1))) co4) (i + 1 + (fs.length - (i + 1))) (fileC (fs.take i ++ [⟨fnow, fsure, .slice wa wn wcap, wn, wc⟩] ++ fs.drop (i + 1))) := by
    rw [← hcells]
    refine RowC.ofOwns (by first | exact hrow | simpa using hrow) ?_
    intro u hu
    rcases List.mem_append.1 hu with h1 | h1
    · rcases List.mem_append.1 h1 with h2 | h2
      · exact HT1.out.one u h2
      · simp at h2; rcases h2 with rfl | rfl | rfl <;> rfl
    · rw [← fileC_drop] at h1
      exact HD0.out.files.one u (List.mem_of_mem_drop h1)
  refine ⟨⟨⟨.slice ao4 (i + 1 + (fs.length - (i + 1))) co4, nv, .slice sa sn sc, tv, cap, dn, calls, fa, cr, er⟩, fs.take i ++ [⟨fnow, fsure, .slice wa wn wcap, wn, wc⟩] ++ fs.drop (i + 1), now, tn, tc, ⟨blk_set HD4.out.row 0 _, ?_, ?_, Ents.mod HD4.out.ents hms (hno (by decide)), HD4.out.waits.mod hms (hno (by decide)), ⟨_, _, _, rfl⟩, by rw [hlen, hlen2]; exact hlf, HD4.out.ln, HD4.out.lt, by rw [hlen, hlen2]; exact HD4.out.idx⟩, by rw [hlen, hlen2]⟩, ((HM0.out.trans HM04.out).mono (by simp)).trans hms⟩
  · rw [hlen]; exact hrw.mod hms (hno (by decide))
  · intro f hf
    have hold : ∀ f ∈ fs, FileOkR (w4.setCell ⟨m, 0, none⟩ (.slice ao4 (i + 1 + (fs.length - (i + 1))) co4)) N f := fun f hf => ⟨(HD4.out.each f hf).wr.mod hms (hno (by decide)), (HD4.out.each f hf).wn, (HD4.out.each f hf).sz⟩
    rcases List.mem_append.1 hf with h1 | h1
    · rcases List.mem_append.1 h1 with h2 | h2
      · exact hold f (List.mem_of_mem_take h2)
      · rw [List.mem_singleton.1 h2]
        exact ⟨(HFo.out.wr.quiet HM04.out).mod hms (hno (by decide)), HFo.out.wn, HFo.out.sz⟩
    · exact hold f (List.mem_of_mem_drop h1)
end
end Go.Proofs.Ytfcoaafmjllpfaa

/- The document's disk: write. -/
namespace Go.Proofs.Ytfcoaafmjllpfaa
open Go.Shelf Go.ChangeShapes Go.WideShapes Go.ChangeAt Go.RowKit
set_option linter.unusedVariables false
set_option linter.unusedSimpArgs false

/-- append of a row to a row of one's own, in a drawn region -/
theorem step_appR {P : Program} (w : World) {ops : Array Oper} {o : Oper} {a : Go.Act} {K : Go.Act → World → Prop} {Q : Exit → Go.Act → World → Prop} {E : Prop} (hgd : o.guard = none) (s x : Operand) (t : TypeId)
    (ho : o.op = .call { callee := .builtin .append, args := #[s, x], argTypes := #[t, t] }) (e : TypeId) (z : Value) (k bytes : Nat) (ht : P.underlying t = some (.slice e)) (hi : (P.info? e).map (fun i => (i.zero, i.size, i.bytes)) = some (some z, k, bytes)) (hzs : z.cells.size = k) (hby : bytes ≤ 100)
    (B : Nat) (v : Value) (n : Nat) (xs : List Value) (hs : a.eval s = v) (hown : w.ownsRow B e k v n xs) (xv : Value) (m : Nat) (ys : List Value) (hx : a.eval x = xv) (hsrc : RowC w e k xv m ys) (hl : n + m ≤ 1000000000) (hB : B ≤ w.heap.size)
    (h : ∀ v' w', w'.ownsRow B e k v' (n + m) (xs ++ ys) → Mod v.ownBlock.toList w w' → K (a.put o.dst v') w') : if Region.wanted o (yielded ops a.tmps) = true then Oper.wp P o a w K Q else E := by
  have hw : Region.wanted o (yielded ops a.tmps) = true := by simp [Region.wanted, hgd]
  rw [if_pos hw]
  obtain ⟨i, h1, h2, h3, h4⟩ := info_parts hi
  obtain ⟨v', w', hr, k1, k2, k3⟩ := run_append_src (P := P) w B t t o.type e i z k bytes ht h1 h2 h3 h4 hzs v n xs hown xv m ys (hsrc.src ht) (by simp only [maxLen]; omega) (by have : (n + m) * bytes ≤ 1000000000 * 100 := Nat.mul_le_mul hl hby; omega) hB
  unfold Oper.wp execOp
  simp only [ho, resolve, invoke, builtin, Sem.run_bind, Sem.run_pure, Result.andThen_ok, List.map_toArray, List.map_cons, List.map_nil, hs, hx, hr]
  exact h v' w' k1 (Mod.ofGrown k2)
section
variable {N : Nat} {w : World} {m : Nat} {r : RdV} {fs : List FileR} {now : EntL} {tn : Nat} {tc : List Value}
set_option maxRecDepth 100000 in
set_option maxHeartbeats 8000000 in
theorem write_r (h : RDat N w m r fs now tn tc) (hN : N ≤ 4000) (i : Nat) (hi : i < fs.length) (p : Int) (hp0 : 0 ≤ p) (hp1 : p ≤ (fs[i]'hi).now.size) (ba : Option Addr) (bn bc : Nat) (xs : List Int) (hx : Cells8 w ba xs) (hbn : bn = xs.length) (hxl : xs.length ≤ 100) :
    Calls Try.prog 66 #[.pointer (some ⟨m, 0, none⟩), .int .i64 i, .int .i64 p, .slice ba bn bc] w fun e w' => (∃ c, e = .returned (.int .i64 c)) ∧ StepP N (N + 1) w m fs.length w' := by
  obtain ⟨fv, nv, sv, tv, cap, dn, calls, fa, cr, er⟩ := r
  obtain ⟨la, lcp, hfv, hlc, -⟩ := h.files.shape
  obtain ⟨b, o, c', e1, hnc, j0, j1, j2⟩ := FilesR_cells h i hi
  simp only at hfv e1
  subst hfv
  simp only [Value.slice.injEq] at e1
  obtain ⟨rfl, -, rfl⟩ := e1
  have k0 : w.cell? ⟨m, 0, none⟩ = some (.slice (some ⟨b, o, none⟩) fs.length lcp) := blk_cell h.row 0
  have hfo := h.each (fs[i]'hi) (List.getElem_mem hi)
  have hii : (i : Int) < (fs.length : Int) := by omega
  generalize hfi : fs[i]'hi = f at *
  obtain ⟨fnow, fsure, fwv, fwn, fwc⟩ := f
  obtain ⟨wa, wcap, hwv, -⟩ := hfo.wr.shape
  simp only at hwv
  subst hwv
  simp only at j0 j1 j2 hp1
  have hmlt := blk_lt h.row
  have hm0 : Mod [] w (w.alloc (.cells #[.string fnow, .string fsure, .slice wa fwn wcap] 78)) := (Mod.refl [] w).alloc _
  have HB0 := Lib.hid (heap_alloc_new w (.cells #[.string fnow, .string fsure, .slice wa fwn wcap] 78))
  have HM0 := Lib.hid hm0
  have HD := Lib.hid (h.quiet hm0)
  have HX := Lib.hid (hx.mod hm0 (by simp))
  have HP := Lib.hid (And.intro hp0 hp1)
  have HBn := Lib.hid (And.intro hbn hxl)
  have HFo := Lib.hid hfo
  clear h hm0 hx hp0 hp1 hbn hxl hfo hfi
  unfold StepP
  go_enter Try.func66, Try.ntmps66
  go_wp2_with fail
  generalize hw0 : w.alloc (.cells #[.string fnow, .string fsure, .slice wa fwn wcap] 78) = w0 at *
  have hw0s : w0.heap.size = w.heap.size + 1 := by rw [← hw0]; simp
  have HW0 := Lib.hid hw0s
  clear hw0s j0 j1 j2 k0
  have k4 : w0.cell? ⟨m, 4, none⟩ = some (.int .i64 cap) := blk_cell HD.out.row 4
  have HU := Lib.hid (fun W (hm : Mod [] w0 W) => used_r (HD.out.quiet hm) (by omega))
  go_region_with (first
    | (go_at_call 76; refine (HU.out _ ((Mod.refl [] _).drew)).mono ?_; rintro e w1 ⟨⟨u, rfl⟩, hm1⟩; have k4b : w1.cell? ⟨m, 4, none⟩ = some (.int .i64 cap) := blk_cell ((HD.out.quiet ((Mod.refl [] w0).drew.trans hm1)).row) 4; have HM1 := Lib.hid hm1; clear hm1))
  all_goals
    have hm01 : Mod [] w0 w1 := ((Mod.refl [] w0).drew).trans HM1.out
    have hB1 := hm01.row HB0.out (by simp)
    have q0 : w1.cell? ⟨w.heap.size, 0, none⟩ = some (.string fnow) := blk_cell hB1 0
    have q1 : w1.cell? ⟨w.heap.size, 1, none⟩ = some (.string fsure) := blk_cell hB1 1
    have q2 : w1.cell? ⟨w.heap.size, 2, none⟩ = some (.slice wa fwn wcap) := blk_cell hB1 2
    have HB1 := Lib.hid hB1
    have HM01 := Lib.hid hm01
    have HWt := Lib.hid (HFo.out.wr.quiet (HM0.out.trans hm01))
    have hwnl := HFo.out.wn
    simp only at hwnl HWt
    clear k4 k4b hm01 hB1
    go_wp2_with (at_builtin; refine wpList_appR _ rfl _ _ 76 rfl 110 _ 2 24 Try.underlying76 winfoR rfl (by decide) w1.heap.size _ 0 [] rfl (World.ownsRow_nil _ _ _ _) _ fwn fwc rfl HWt.out (by omega) (Nat.le_refl _) ?_)
    all_goals first
      | (go_ret
         exact ⟨⟨_, rfl⟩, ⟨_, fs, now, tn, tc, (HD.out.quiet HM01.out).mono (Nat.le_succ N), rfl⟩, (HM0.out.trans HM01.out).mono (by simp)⟩)
      | (intro v2 w2 ho2 hm2
         simp only [Value.ownBlock, Option.toList_none, Nat.zero_add, List.nil_append] at hm2 ho2
         obtain ⟨ao2, co2, rfl, -, -⟩ := owns_shape ho2
         have hB2 := hm2.row HB1.out (by simp)
         have q0 : w2.cell? ⟨w.heap.size, 0, none⟩ = some (.string fnow) := blk_cell hB2 0
         have q1 : w2.cell? ⟨w.heap.size, 1, none⟩ = some (.string fsure) := blk_cell hB2 1
         have HO2 := Lib.hid ho2
         have HM12 := Lib.hid hm2
         have hm02 := HM01.out.trans hm2
         have HM02 := Lib.hid hm02
         have HB2 := Lib.hid hB2
         have HCv := Lib.hid (fun W (hm : Mod [] w1 W) => run_str (P := Try.prog) (HX.out.mod (HM01.out.trans hm) (by simp)) 22 9 5 bn bc Try.underlying22 Try.underlying5 Try.underlying9 HBn.out.1)
         have HKeep := Lib.hid (show ∀ W, Mod [] w1 W → W.cell? ⟨w.heap.size, 0, none⟩ = some (.string fnow) ∧ W.cell? ⟨w.heap.size, 1, none⟩ = some (.string fsure) ∧ (convert 22 9 (.slice ba bn bc)).run Try.prog W = .ok (.string (strOfNums xs)) W ∧ Mod [] w1 W from fun W hm => ⟨blk_cell (hm.row HB1.out (by simp)) 0, blk_cell (hm.row HB1.out (by simp)) 1, HCv.out W hm, hm⟩)
         clear ho2 hm2 hB2 hm02
         have HOv := Lib.hid (fun W => over_r W fnow (strOfNums xs) p HP.out.1 HP.out.2 (by have := HFo.out.sz; simp only at this; omega) (by rw [size_strOfNums]; have := HBn.out.2; omega))
         go_wp2_with fail
         -- REGION
         refine region_J (S := (fun W => W.cell? ⟨w.heap.size, 0, none⟩ = some (.string fnow) ∧ W.cell? ⟨w.heap.size, 1, none⟩ = some (.string fsure) ∧ (convert 22 9 (.slice ba bn bc)).run Try.prog W = .ok (.string (strOfNums xs)) W ∧ Mod [] w1 W)) (k := 18) (by kernel_rfl) (HKeep.out _ (HM12.out.drew)) (fun hHeld => ?_)
         refine anyJ.take3 (i := 0) (oi := ?_) (v := ?_) ?_ (by kernel_rfl) (by kernel_rfl) (by kernel_rfl) (by kernel_rfl) ?_ (Or.inl ⟨?_, ?_⟩) hHeld ?_
         rotate_left 2
         · simp only [List.getElem?_toArray, List.getElem?_cons_succ, List.getElem?_cons_zero]; rfl
         · exact fun _ _ _ h => h
         · rfl
         · intro w hSw; (try dsimp only at hSw); go_simp; try (with_reducible rfl)
         try simp only [Act.put, List.setIfInBounds_toArray, List.set_cons_zero, List.set_cons_succ]
         refine anyJ.take3 (i := 1) (oi := ?_) (v := ?_) ?_ (by kernel_rfl) (by kernel_rfl) (by kernel_rfl) (by kernel_rfl) ?_ (Or.inl ⟨?_, ?_⟩) hHeld ?_
         rotate_left 2
         · simp only [List.getElem?_toArray, List.getElem?_cons_succ, List.getElem?_cons_zero]; rfl
         · exact fun _ _ _ h => h
         · rfl
         · intro w hSw; (try dsimp only at hSw); go_simp; try (with_reducible rfl)
         try simp only [Act.put, List.setIfInBounds_toArray, List.set_cons_zero, List.set_cons_succ]
         refine anyJ.take3 (i := 2) (oi := ?_) (v := ?_) ?_ (by kernel_rfl) (by kernel_rfl) (by kernel_rfl) (by kernel_rfl) ?_ (Or.inl ⟨?_, ?_⟩) hHeld ?_
         rotate_left 2
         · simp only [List.getElem?_toArray, List.getElem?_cons_succ, List.getElem?_cons_zero]; rfl
         · exact fun _ _ _ h => h
         · rfl
         · intro w hSw; (try dsimp only at hSw); go_simp; try (with_reducible rfl)
         try simp only [Act.put, List.setIfInBounds_toArray, List.set_cons_zero, List.set_cons_succ]
         refine anyJ.take3 (i := 3) (oi := ?_) (v := ?_) ?_ (by kernel_rfl) (by kernel_rfl) (by kernel_rfl) (by kernel_rfl) ?_ (Or.inl ⟨?_, ?_⟩) hHeld ?_
         rotate_left 2
         · simp only [List.getElem?_toArray, List.getElem?_cons_succ, List.getElem?_cons_zero]; rfl
         · exact fun _ _ _ h => h
         · rfl
         · intro w hSw; (try dsimp only at hSw); go_simp; try (with_reducible rfl)
         try simp only [Act.put, List.setIfInBounds_toArray, List.set_cons_zero, List.set_cons_succ]
         refine anyJ.take3 (i := 4) (oi := ?_) (v := ?_) ?_ (by kernel_rfl) (by kernel_rfl) (by kernel_rfl) (by kernel_rfl) ?_ (Or.inl ⟨?_, ?_⟩) hHeld ?_
         rotate_left 2
         · simp only [List.getElem?_toArray, List.getElem?_cons_succ, List.getElem?_cons_zero]; rfl
         · exact fun _ _ _ h => h
         · rfl
         · intro w hSw; (try dsimp only at hSw); go_simp; try (with_reducible rfl)
         try simp only [Act.put, List.setIfInBounds_toArray, List.set_cons_zero, List.set_cons_succ]
         refine anyJ.take3 (i := 5) (oi := ?_) (v := ?_) ?_ (by kernel_rfl) (by kernel_rfl) (by kernel_rfl) (by kernel_rfl) ?_ (Or.inl ⟨?_, ?_⟩) hHeld ?_
         rotate_left 2
         · simp only [List.getElem?_toArray, List.getElem?_cons_succ, List.getElem?_cons_zero]; rfl
         · exact fun _ _ _ h => h
         · rfl
         · intro w hSw; (try dsimp only at hSw); go_simp; try (with_reducible rfl)
         try simp only [Act.put, List.setIfInBounds_toArray, List.set_cons_zero, List.set_cons_succ]
         refine anyJ.take3 (i := 6) (oi := ?_) (v := ?_) ?_ (by kernel_rfl) (by kernel_rfl) (by kernel_rfl) (by kernel_rfl) ?_ (Or.inl ⟨?_, ?_⟩) hHeld ?_
         rotate_left 2
         · simp only [List.getElem?_toArray, List.getElem?_cons_succ, List.getElem?_cons_zero]; rfl
         · exact fun _ _ _ h => h
         · rfl
         · intro w hSw; (try dsimp only at hSw); go_simp; try (with_reducible rfl)
         try simp only [Act.put, List.setIfInBounds_toArray, List.set_cons_zero, List.set_cons_succ]
         refine anyJ.take3 (i := 8) (oi := ?_) (v := ?_) ?_ (by kernel_rfl) (by kernel_rfl) (by kernel_rfl) (by kernel_rfl) ?_ (Or.inl ⟨?_, ?_⟩) hHeld ?_
         rotate_left 2
         · simp only [List.getElem?_toArray, List.getElem?_cons_succ, List.getElem?_cons_zero]; rfl
         · exact fun _ _ _ h => h
         · rfl
         · intro w hSw; (try dsimp only at hSw); go_simp; try (with_reducible rfl)
         try simp only [Act.put, List.setIfInBounds_toArray, List.set_cons_zero, List.set_cons_succ]
         refine anyJ.take3 (i := 9) (oi := ?_) (v := ?_) ?_ (by kernel_rfl) (by kernel_rfl) (by kernel_rfl) (by kernel_rfl) ?_ (Or.inl ⟨?_, ?_⟩) hHeld ?_
         rotate_left 2
         · simp only [List.getElem?_toArray, List.getElem?_cons_succ, List.getElem?_cons_zero]; rfl
         · exact fun _ _ _ h => h
         · rfl
         · intro w hSw; (try dsimp only at hSw); go_simp; try (with_reducible rfl)
         try simp only [Act.put, List.setIfInBounds_toArray, List.set_cons_zero, List.set_cons_succ]
         refine anyJ.take3 (i := 10) (oi := ?_) (v := ?_) ?_ (by kernel_rfl) (by kernel_rfl) (by kernel_rfl) (by kernel_rfl) ?_ (Or.inl ⟨?_, ?_⟩) hHeld ?_
         rotate_left 2
         · simp only [List.getElem?_toArray, List.getElem?_cons_succ, List.getElem?_cons_zero]; rfl
         · exact fun _ _ _ h => h
         · rfl
         · intro w hSw; (try dsimp only at hSw); go_simp; try (with_reducible rfl)
         try simp only [Act.put, List.setIfInBounds_toArray, List.set_cons_zero, List.set_cons_succ]
         refine anyJ.take3 (i := 11) (oi := ?_) (v := ?_) ?_ (by kernel_rfl) (by kernel_rfl) (by kernel_rfl) (by kernel_rfl) ?_ (Or.inl ⟨?_, ?_⟩) hHeld ?_
         rotate_left 2
         · simp only [List.getElem?_toArray, List.getElem?_cons_succ, List.getElem?_cons_zero]; rfl
         · exact fun _ _ _ h => h
         · rfl
         · intro w hSw; (try dsimp only at hSw); go_simp; try (with_reducible rfl)
         try simp only [Act.put, List.setIfInBounds_toArray, List.set_cons_zero, List.set_cons_succ]
         refine anyJ.take3 (i := 12) (oi := ?_) (v := ?_) ?_ (by kernel_rfl) (by kernel_rfl) (by kernel_rfl) (by kernel_rfl) ?_ (Or.inl ⟨?_, ?_⟩) hHeld ?_
         rotate_left 2
         · simp only [List.getElem?_toArray, List.getElem?_cons_succ, List.getElem?_cons_zero]; rfl
         · exact fun _ _ _ h => h
         · rfl
         · intro w hSw; (try dsimp only at hSw); go_simp; try (with_reducible rfl)
         try simp only [Act.put, List.setIfInBounds_toArray, List.set_cons_zero, List.set_cons_succ]
         refine anyJ.take3 (i := 13) (oi := ?_) (v := ?_) ?_ (by kernel_rfl) (by kernel_rfl) (by kernel_rfl) (by kernel_rfl) ?_ (Or.inl ⟨?_, ?_⟩) hHeld ?_
         rotate_left 2
         · simp only [List.getElem?_toArray, List.getElem?_cons_succ, List.getElem?_cons_zero]; rfl
         · exact fun _ _ _ h => h
         · rfl
         · intro w hSw; (try dsimp only at hSw); go_simp; try (with_reducible rfl)
         try simp only [Act.put, List.setIfInBounds_toArray, List.set_cons_zero, List.set_cons_succ]
         refine anyJ.take3 (i := 14) (oi := ?_) (v := ?_) ?_ (by kernel_rfl) (by kernel_rfl) (by kernel_rfl) (by kernel_rfl) ?_ (Or.inl ⟨?_, ?_⟩) hHeld ?_
         rotate_left 2
         · simp only [List.getElem?_toArray, List.getElem?_cons_succ, List.getElem?_cons_zero]; rfl
         · exact fun _ _ _ h => h
         · rfl
         · intro w hSw; (try dsimp only at hSw); go_simp; try (with_reducible rfl)
         try simp only [Act.put, List.setIfInBounds_toArray, List.set_cons_zero, List.set_cons_succ]
         refine anyJ.ready (rs := [7, 15]) (by kernel_rfl) (by simp) ?_
         refine AllJ.cons (o := ?_) ?_ (fun K hK => ?_) ?_
         rotate_left
         · simp only [List.getElem?_toArray, List.getElem?_cons_succ, List.getElem?_cons_zero]; rfl
         · go_simp
           go_at_call 69
           refine (HOv.out _).mono ?_
           rintro e w3 ⟨⟨sr, rfl, hsr⟩, hm3⟩
           have HM_w3 : Hid (Mod [] w1 w3) := Lib.hid ((HM12.out.drew).trans hm3)
           have HSr := Lib.hid hsr
           have HO3 := Lib.hid ((((Mod.refl [] w2).drew).trans hm3).owns HO2.out (by simp))
           clear hm3 hsr
           go_simp
           refine hK.out _ _ (HKeep.out _ HM_w3.out) ?_
           clear hK K hHeld
           intro hHeld
           try simp only [Act.put, List.setIfInBounds_toArray, List.set_cons_zero, List.set_cons_succ]
           refine anyJ.ready (rs := [15]) (by kernel_rfl) (by simp) ?_
           refine AllJ.cons (o := ?_) ?_ (fun K hK => ?_) ?_
           rotate_left
           · simp only [List.getElem?_toArray, List.getElem?_cons_succ, List.getElem?_cons_zero]; rfl
           · go_simp
             have hmz : Mod [] (w3) ((w3).alloc (.cells #[.int .i64 p, .string (strOfNums xs)] 110)) := ((Mod.refl [] _).alloc _)
             have HM_w8 : Hid (Mod [] w1 ((w3).alloc (.cells #[.int .i64 p, .string (strOfNums xs)] 110))) := Lib.hid ((HM_w3.out).trans hmz)
             have HOn := Lib.hid ((one_row (w3) 110 #[.int .i64 p, .string (strOfNums xs)] (by intro u hu; simp at hu; rcases hu with rfl | rfl <;> rfl)))
             have HOx := Lib.hid (hmz.owns HO3.out (by simp))
             have hgs : (((w3).alloc (.cells #[.int .i64 p, .string (strOfNums xs)] 110))).heap.size = (w3).heap.size + 1 := by simp
             clear hmz
             generalize hgb : (w3).heap.size = gb at *
             generalize hw8 : ((w3).alloc (.cells #[.int .i64 p, .string (strOfNums xs)] 110)) = w8 at *
             refine hK.out _ _ (HKeep.out _ HM_w8.out) ?_
             clear hK K hHeld
             intro hHeld
             try simp only [Act.put, List.setIfInBounds_toArray, List.set_cons_zero, List.set_cons_succ]
             refine anyJ.ready (rs := [16]) (by kernel_rfl) (by simp) ?_
             refine AllJ.cons (o := ?_) ?_ (fun K hK => ?_) ?_
             rotate_left
             · simp only [List.getElem?_toArray, List.getElem?_cons_succ, List.getElem?_cons_zero]; rfl
             · refine step_appR _ rfl _ _ 76 rfl 110 _ 2 24 Try.underlying76 winfoR rfl (by decide) w1.heap.size _ fwn fwc (by rfl) HOx.out _ 1 _ (by rfl) HOn.out (by omega) HM_w8.out.size ?_
               intro v5 w5 ho5 hm5
               obtain ⟨a5, c5, rfl, -, -⟩ := owns_shape ho5
               have HO5 := Lib.hid ho5
               have HM_w5 : Hid (Mod [] w1 w5) := Lib.hid (HM_w8.out.trans' hm5 (fun y hy => .inr (HOx.out.lt y (Option.mem_toList.1 hy)).1))
               clear ho5 hm5
               refine hK.out _ _ (HKeep.out _ HM_w5.out) ?_
               clear hK K hHeld
               intro hHeld
               try simp only [Act.put, List.setIfInBounds_toArray, List.set_cons_zero, List.set_cons_succ]
               refine anyJ.take3 (i := 17) (oi := ?_) (v := ?_) ?_ (by kernel_rfl) (by kernel_rfl) (by kernel_rfl) (by kernel_rfl) ?_ (Or.inl ⟨?_, ?_⟩) hHeld ?_
               rotate_left 2
               · simp only [List.getElem?_toArray, List.getElem?_cons_succ, List.getElem?_cons_zero]; rfl
               · exact fun _ _ _ h => h
               · rfl
               · intro w hSw; (try dsimp only at hSw); go_simp; try (with_reducible rfl)
               try simp only [Act.put, List.setIfInBounds_toArray, List.set_cons_zero, List.set_cons_succ]
               refine anyJ.ready (rs := [18]) (by kernel_rfl) (by simp) ?_
               refine AllJ.last (o := ?_) ?_ (fun K hK => ?_)
               rotate_left
               · simp only [List.getElem?_toArray, List.getElem?_cons_succ, List.getElem?_cons_zero]; rfl
               · go_simp
                 have HWi := Lib.hid (with_r ((HD.out.quiet (HM01.out.trans HM_w5.out)).mono (Nat.le_succ N)) (by omega) i hi sr fsure a5 (fwn + 1) c5 (fwc ++ [.int .i64 p, .string (strOfNums xs)]) ⟨RowC.ofOwns HO5.out (by
                   intro u hu
                   rcases List.mem_append.1 hu with h1 | h1
                   · exact HWt.out.one u h1
                   · simp at h1; rcases h1 with rfl | rfl <;> rfl), by show fwn + 1 ≤ N + 1; omega, by
                   have h1 := HSr.out
                   have h2 := HFo.out.sz
                   rw [size_strOfNums] at h1
                   have h3 := HBn.out.2
                   simp only at h2 ⊢
                   omega⟩)
                 go_at_call 67
                 refine HWi.out.mono ?_
                 rintro e w6 ⟨rfl, hst⟩
                 have HSt := Lib.hid hst
                 clear hst
                 go_simp
                 refine hK.out _ _ ?_
                 clear hK K
                 try simp only [Act.put, List.setIfInBounds_toArray, List.set_cons_zero, List.set_cons_succ]
                 refine anyJ.done (by kernel_rfl) ?_ _
                 go_wp2_with fail
                 go_ret
                 obtain ⟨⟨r', fs', now', tn', tc', hr1, hr2⟩, hst2⟩ := HSt.out
                 refine ⟨⟨_, rfl⟩, ⟨r', fs', ⟨now', tn', tc', hr1⟩, hr2⟩, (((HM0.out.trans HM01.out).trans HM_w5.out).mono (by simp)).trans hst2⟩
             exact AllJ.nil
           exact AllJ.nil
         refine AllJ.cons (o := ?_) ?_ (fun K hK => ?_) ?_
         rotate_left
         · simp only [List.getElem?_toArray, List.getElem?_cons_succ, List.getElem?_cons_zero]; rfl
         · go_simp
           have hmz : Mod [] (w2) ((w2).alloc (.cells #[.int .i64 p, .string (strOfNums xs)] 110)).drew := ((Mod.refl [] _).alloc _).drew
           have HM_w8 : Hid (Mod [] w1 ((w2).alloc (.cells #[.int .i64 p, .string (strOfNums xs)] 110)).drew) := Lib.hid ((HM12.out).trans hmz)
           have HOn := Lib.hid ((one_row (w2) 110 #[.int .i64 p, .string (strOfNums xs)] (by intro u hu; simp at hu; rcases hu with rfl | rfl <;> rfl)).quiet ((Mod.refl [] _).drew))
           have HOx := Lib.hid (hmz.owns HO2.out (by simp))
           have hgs : (((w2).alloc (.cells #[.int .i64 p, .string (strOfNums xs)] 110)).drew).heap.size = (w2).heap.size + 1 := by simp
           clear hmz
           generalize hgb : (w2).heap.size = gb at *
           generalize hw8 : ((w2).alloc (.cells #[.int .i64 p, .string (strOfNums xs)] 110)).drew = w8 at *
           refine hK.out _ _ (HKeep.out _ HM_w8.out) ?_
           clear hK K hHeld
           intro hHeld
           try simp only [Act.put, List.setIfInBounds_toArray, List.set_cons_zero, List.set_cons_succ]
           refine anyJ.ready (rs := [7]) (by kernel_rfl) (by simp) ?_
           refine AllJ.cons (o := ?_) ?_ (fun K hK => ?_) ?_
           rotate_left
           · simp only [List.getElem?_toArray, List.getElem?_cons_succ, List.getElem?_cons_zero]; rfl
           · go_simp
             go_at_call 69
             refine (HOv.out _).mono ?_
             rintro e w3 ⟨⟨sr, rfl, hsr⟩, hm3⟩
             have HM_w3 : Hid (Mod [] w1 w3) := Lib.hid (HM_w8.out.trans hm3)
             have HSr := Lib.hid hsr
             have HN1 := Lib.hid (HOn.out.quiet hm3)
             have HN2 := Lib.hid (hm3.owns HOx.out (by simp))
             clear HOn HOx
             have HOn := HN1
             have HOx := HN2
             clear HN1 HN2
             clear hm3 hsr
             go_simp
             refine hK.out _ _ (HKeep.out _ HM_w3.out) ?_
             clear hK K hHeld
             intro hHeld
             try simp only [Act.put, List.setIfInBounds_toArray, List.set_cons_zero, List.set_cons_succ]
             refine anyJ.ready (rs := [16]) (by kernel_rfl) (by simp) ?_
             refine AllJ.cons (o := ?_) ?_ (fun K hK => ?_) ?_
             rotate_left
             · simp only [List.getElem?_toArray, List.getElem?_cons_succ, List.getElem?_cons_zero]; rfl
             · refine step_appR _ rfl _ _ 76 rfl 110 _ 2 24 Try.underlying76 winfoR rfl (by decide) w1.heap.size _ fwn fwc (by rfl) HOx.out _ 1 _ (by rfl) HOn.out (by omega) HM_w3.out.size ?_
               intro v5 w5 ho5 hm5
               obtain ⟨a5, c5, rfl, -, -⟩ := owns_shape ho5
               have HO5 := Lib.hid ho5
               have HM_w5 : Hid (Mod [] w1 w5) := Lib.hid (HM_w3.out.trans' hm5 (fun y hy => .inr (HOx.out.lt y (Option.mem_toList.1 hy)).1))
               clear ho5 hm5
               refine hK.out _ _ (HKeep.out _ HM_w5.out) ?_
               clear hK K hHeld
               intro hHeld
               try simp only [Act.put, List.setIfInBounds_toArray, List.set_cons_zero, List.set_cons_succ]
               refine anyJ.take3 (i := 17) (oi := ?_) (v := ?_) ?_ (by kernel_rfl) (by kernel_rfl) (by kernel_rfl) (by kernel_rfl) ?_ (Or.inl ⟨?_, ?_⟩) hHeld ?_
               rotate_left 2
               · simp only [List.getElem?_toArray, List.getElem?_cons_succ, List.getElem?_cons_zero]; rfl
               · exact fun _ _ _ h => h
               · rfl
               · intro w hSw; (try dsimp only at hSw); go_simp; try (with_reducible rfl)
               try simp only [Act.put, List.setIfInBounds_toArray, List.set_cons_zero, List.set_cons_succ]
               refine anyJ.ready (rs := [18]) (by kernel_rfl) (by simp) ?_
               refine AllJ.last (o := ?_) ?_ (fun K hK => ?_)
               rotate_left
               · simp only [List.getElem?_toArray, List.getElem?_cons_succ, List.getElem?_cons_zero]; rfl
               · go_simp
                 have HWi := Lib.hid (with_r ((HD.out.quiet (HM01.out.trans HM_w5.out)).mono (Nat.le_succ N)) (by omega) i hi sr fsure a5 (fwn + 1) c5 (fwc ++ [.int .i64 p, .string (strOfNums xs)]) ⟨RowC.ofOwns HO5.out (by
                   intro u hu
                   rcases List.mem_append.1 hu with h1 | h1
                   · exact HWt.out.one u h1
                   · simp at h1; rcases h1 with rfl | rfl <;> rfl), by show fwn + 1 ≤ N + 1; omega, by
                   have h1 := HSr.out
                   have h2 := HFo.out.sz
                   rw [size_strOfNums] at h1
                   have h3 := HBn.out.2
                   simp only at h2 ⊢
                   omega⟩)
                 go_at_call 67
                 refine HWi.out.mono ?_
                 rintro e w6 ⟨rfl, hst⟩
                 have HSt := Lib.hid hst
                 clear hst
                 go_simp
                 refine hK.out _ _ ?_
                 clear hK K
                 try simp only [Act.put, List.setIfInBounds_toArray, List.set_cons_zero, List.set_cons_succ]
                 refine anyJ.done (by kernel_rfl) ?_ _
                 go_wp2_with fail
                 go_ret
                 obtain ⟨⟨r', fs', now', tn', tc', hr1, hr2⟩, hst2⟩ := HSt.out
                 refine ⟨⟨_, rfl⟩, ⟨r', fs', ⟨now', tn', tc', hr1⟩, hr2⟩, (((HM0.out.trans HM01.out).trans HM_w5.out).mono (by simp)).trans hst2⟩
             exact AllJ.nil
           exact AllJ.nil
         exact AllJ.nil)
end
end Go.Proofs.Ytfcoaafmjllpfaa

