/- Send. -/
import Derived.Test.YthcgnnhfkejglaaDoorDtF
import Derived.Lib.SlSplitV
namespace Go.Proofs.YthcgnnhfkejglaaDoor
open Go.Shelf Go.ChangeShapes Go.WideShapes Go.ChangeAt Go.RowKit
set_option linter.unusedVariables false
set_option linter.unusedSimpArgs false

/-- the values of a message's pieces -/
def piecesV (y : Addr) (cap : Nat) (l : List Int) : List Value := Lib.splitV crlf8 2 (cntL l) y cap (Lib.bytesOf l)
theorem piecesV_len (y : Addr) (cap : Nat) (l : List Int) (hb : Bytes l) : (piecesV y cap l).length = cntL l + 1 := by
  unfold piecesV
  rw [Lib.splitV_length, splitK_crlf l _ hb (Nat.le_refl _), List.length_map, piecesL_len]
theorem piecesL_bytes (l : List Int) : Bytes l → ∀ p ∈ piecesL l, Bytes p := by
  induction l using len_ind with | _ l ih
  intro hb p hp
  by_cases h0 : endP l = 0
  · rw [piecesL_no h0] at hp; rw [List.mem_singleton.1 hp]; exact hb
  · have hg := endP_ge l
    have hle := endP_le l
    rw [piecesL_yes h0] at hp
    rcases List.mem_cons.1 hp with rfl | hp
    · exact hb.take _
    · exact ih _ (by rw [List.length_drop]; omega) (hb.drop _) p hp
theorem add_zero (a : Addr) : a.add 0 = a := by simp [Addr.add]
/-- a piece: a slice of its bytes -/
theorem piece_at {y : Addr} {cap : Nat} {l : List Int} (hb : Bytes l) (hc : l.length ≤ cap) (j : Nat) (hj : j < cntL l + 1) :
    ∃ a' cp, (piecesV y cap l)[j]? = some (.slice (some a') ((piecesL l).getD j []).length cp) ∧ ((piecesL l).getD j []).length ≤ l.length ∧ ∀ w, Cells8 w (some y) l → Cells8 w (some a') ((piecesL l).getD j []) := by
  have hlen := piecesV_len y cap l hb
  have hjv : j < (piecesV y cap l).length := by omega
  obtain ⟨a', off, len, cp, e1, e2, e3, e4, e5⟩ := Lib.splitV_spec crlf8 2 (by decide) (by decide) (cntL l) y cap (Lib.bytesOf l) (by rw [bytesOf_len]; exact hc) j _ (List.getElem?_eq_getElem (l := piecesV y cap l) hjv)
  rw [splitK_crlf l _ hb (Nat.le_refl _)] at e4
  have hjl : j < (piecesL l).length := by rw [piecesL_len]; exact hj
  have hp : (piecesL l).getD j [] = (piecesL l)[j] := by simp [List.getD, hjl]
  rw [hp]
  rw [List.getElem?_map, List.getElem?_eq_getElem hjl, Option.map_some, Option.some.injEq, ← bytesOf_drop, ← bytesOf_take] at e4
  have hpb := piecesL_bytes l hb _ (List.getElem_mem hjl)
  have e6 : (piecesL l)[j] = (l.drop off).take len := bytesOf_inj hpb ((hb.drop _).take _) e4
  rw [bytesOf_len] at e3
  have e7 : (piecesL l)[j].length = len := by rw [e6, List.length_take, List.length_drop]; omega
  refine ⟨a', cp, by rw [e7, ← e1]; exact List.getElem?_eq_getElem hjv, by omega, fun w hcw => ⟨hpb, ?_⟩⟩
  by_cases h0 : len = 0
  · left; exact List.eq_nil_of_length_eq_zero (by omega)
  · right
    obtain ⟨b, o, hy, _⟩ := hcw.addr (by omega)
    cases hy
    have ea := e5 0 (by omega)
    rw [add_zero, Nat.add_zero, Addr.add_lit] at ea
    subst ea
    refine ⟨b, o + off, rfl, fun i hi => ?_⟩
    rw [Nat.add_assoc, hcw.at (off + i) (by omega), e6]
    have hil : i < len := by omega
    simp [List.getD, List.getElem?_take, hil, List.getElem?_drop]
/-- what was put together so far -/
structure Sent (B : Nat) (w wr : World) (v : Value) (L : List Int) : Prop where
  own : wr.ownsRow 0 5 1 v L.length (u8s L)
  from_ : ∀ k, v.ownBlock = some k → B ≤ k
  byt : Bytes L
  below : Below B w wr
theorem Sent.grew {B : Nat} {w wr w1 w2 : World} {v v2 : Value} {L L2 : List Int} (h : Sent B w wr v L) (hB : B ≤ wr.heap.size) (hm : Mod [] wr w1) (hg : Grew 5 w1 v L2 v2 w2) (hb : Bytes L2) : Sent B w w2 v2 L2 := by
  have hsz := hm.size
  obtain ⟨k1, k2⟩ := hg.since (B := B) (by omega) h.from_
  refine ⟨owns_rebase k1 (fun k hk => Nat.zero_le _), fun k hk => (owns_lt k1 hk).1, hb, (h.below.trans (hm.toBelow hB (by simp))).trans k2⟩
/-- a block that is not what was put together stays -/
theorem Sent.row {B : Nat} {w wr w1 w2 : World} {v v2 : Value} {L L2 : List Int} (h : Sent B w wr v L) (hm : Mod [] wr w1) (hg : Grew 5 w1 v L2 v2 w2) {g : Nat} {o : Obj} (ho : wr.heap[g]? = some o) (hne : ∀ C, o ≠ .cells C 5 (0, 0)) : w2.heap[g]? = some o := by
  have h1 := hm.row ho (by simp)
  refine hg.mod.row h1 ?_
  intro hx
  obtain ⟨C, hC⟩ := owns_isT (hm.owns h.own (by simp)) (by simpa using hx)
  rw [h1] at hC
  exact hne C (Option.some.inj hC)
/-- the loop's state -/
structure Sends (B : Nat) (y : Option Addr) (V : List Value) (P : Nat) (E : Nat) (w wr : World) (v : Value) (L : List Int) : Prop where
  sent : Sent B w wr v L
  pcs : wr.heap[P]? = some (.cells V.toArray 22 (0, 0))
  end_ : wr.heap[E]? = some endO
  hB : B ≤ E
theorem endO_ne : ∀ C, endO ≠ .cells C 5 (0, 0) := by
  intro C h
  injection h with h1 h2 h3
  exact absurd h3 (by decide)
theorem Sends.size {B : Nat} {y : Option Addr} {V : List Value} {P E : Nat} {w wr : World} {v : Value} {L : List Int} (h : Sends B y V P E w wr v L) : B ≤ wr.heap.size := by have := blk_lt h.end_; have := h.hB; omega
theorem Sends.grew {B : Nat} {y : Option Addr} {V : List Value} {P E : Nat} {w wr w1 w2 : World} {v v2 : Value} {L L2 : List Int} (h : Sends B y V P E w wr v L) (hm : Mod [] wr w1) (hg : Grew 5 w1 v L2 v2 w2) (hb : Bytes L2) : Sends B y V P E w w2 v2 L2 :=
  ⟨h.sent.grew h.size hm hg hb, h.sent.row hm hg h.pcs (by intro C e; injection e with e1 e2; exact absurd e2 (by decide)), h.sent.row hm hg h.end_ endO_ne, h.hB⟩
def upTo (l : List Int) (i : Nat) : List Int := ((piecesL l).take i).flatMap stuffL
theorem upTo_succ (l : List Int) (i : Nat) (h : i < cntL l + 1) : upTo l (i + 1) = upTo l i ++ stuffL ((piecesL l).getD i []) := by
  have hi : i < (piecesL l).length := by rw [piecesL_len]; exact h
  unfold upTo
  rw [List.take_succ_eq_append_getElem hi, List.flatMap_append]
  simp [List.getD, hi]
theorem upTo_all (l : List Int) : upTo l (cntL l + 1) = bodyL l := by
  unfold upTo
  rw [List.take_of_length_le (by rw [piecesL_len]; exact Nat.le_refl _), piecesL_body]
theorem upTo_len (l : List Int) (i : Nat) : (upTo l i).length ≤ 2 * l.length + 5 := by
  have h1 : ((piecesL l).take i).flatMap stuffL ++ ((piecesL l).drop i).flatMap stuffL = bodyL l := by
    rw [← List.flatMap_append, List.take_append_drop, piecesL_body]
  have h2 := congrArg List.length h1
  rw [List.length_append] at h2
  have := stuffs_len l
  unfold upTo
  omega
theorem stuffL_bytes {p : List Int} (h : Bytes p) : Bytes (stuffL p) := by
  unfold stuffL
  split
  · intro x hx
    rcases List.mem_cons.1 hx with rfl | hx
    · exact ⟨by omega, by omega⟩
    · exact h x hx
  · exact h
theorem upTo_bytes {l : List Int} (h : Bytes l) (i : Nat) : Bytes (upTo l i) := by
  intro x hx
  obtain ⟨p, hp, hx⟩ := List.mem_flatMap.1 hx
  exact stuffL_bytes (piecesL_bytes l h p (List.mem_of_mem_take hp)) x hx
def SendP (l : List Int) (w : World) (e : Ending) (w' : World) : Prop := ∃ v', e = .returned v' ∧ w'.ownsRow w.heap.size 5 1 v' (sendL l).length (u8s (sendL l)) ∧ Below w.heap.size w w'
/-- does it end with CR LF -/
theorem suffix_any (w : World) (a : Option Addr) (n cap : Nat) (l : List Int) (h : In8 w a n cap l) (g : Nat) (hg : w.heap[g]? = some endO) (hn : l.length ≤ 100000) (hne : l ≠ []) :
    Calls Tryd.prog 22 #[.slice a n cap, .slice (some ⟨g, 0, none⟩) 2 2] w fun e w' => e = .returned (.bool (!openE l)) ∧ w = w' := by
  obtain ⟨hc, rfl⟩ := h.cells
  rcases h with ⟨rfl, h0, rfl, rfl⟩ | ⟨y, rfl, h1, h2, h3, -⟩
  · exact absurd rfl hne
  refine (Tryd.bytes_HasSuffix_all (some y) (some ⟨g, 0, none⟩) l.length cap 2 2 l [13, 10] w rfl rfl h1 (by omega) (Lib.BytesIn.of_cells (cells_add h3)) (Lib.BytesIn.of_cells (cells_add (end_cells hg)))).mono ?_
  rintro e w' ⟨rfl, rfl⟩
  refine ⟨?_, rfl⟩
  have hq : Lib.hasSuffix (Lib.bytesOf l) (Lib.bytesOf [13, 10]) = !openE l := by
    have hi := sfx_iff l hne
    rw [Bool.eq_iff_iff]
    simp only [Bool.not_eq_true']
    rw [hi]
    unfold Lib.hasSuffix
    rw [List.isSuffixOf_iff_suffix]
    constructor
    · rintro ⟨t, ht⟩
      refine ⟨l.take (l.length - 2), ?_⟩
      have hl2 : t.length + 2 = l.length := by have := congrArg List.length ht; simpa [bytesOf_len, crlf_bytesOf] using this
      apply bytesOf_inj h3.1
      · exact (h3.1.take _).append (by unfold Bytes; decide)
      · rw [show Lib.bytesOf (l.take (l.length - 2) ++ [13, 10]) = Lib.bytesOf (l.take (l.length - 2)) ++ Lib.bytesOf [13, 10] from List.map_append, bytesOf_take, ← ht]
        have e : l.length - 2 = t.length := by omega
        rw [e, List.take_left]
    · rintro ⟨t, rfl⟩
      exact ⟨Lib.bytesOf t, by rw [show Lib.bytesOf (t ++ [13, 10]) = Lib.bytesOf t ++ Lib.bytesOf [13, 10] from List.map_append]⟩
  rw [hq]
end Go.Proofs.YthcgnnhfkejglaaDoor
