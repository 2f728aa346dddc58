/- The decoder: Done, Feed, NewDecoder, Text, Decode. -/
import Derived.Test.YthcgnnhfkejglaaDoorDtB
import Derived.Test.YthcgnnhfkejglaaDoorShelf
import Derived.Deep.LoopGhost
namespace Go.Proofs.YthcgnnhfkejglaaDoor
open Go.Shelf Go.ChangeShapes Go.WideShapes Go.ChangeAt Go.RowKit
set_option linter.unusedVariables false
set_option linter.unusedSimpArgs false

theorem done_any (w : World) (g : Nat) (v : Value) (s : Dst) (M : Nat) (h : Dec w g v s M) (d : Bool) (hd : d = decide (s.st = 5)) :
    Calls Tryd.prog 19 #[.pointer (some ⟨g, 0, none⟩)] w fun e w' => e = .returned (.bool d) ∧ w = w' := by
  have k0 := blk_cell h.row 0
  clear h
  subst hd
  by_cases h5 : s.st = 5
  · rw [h5] at k0 ⊢
    go_enter Tryd.func19, Tryd.ntmps19
    go_wp2
    go_ret
    exact ⟨rfl, rfl⟩
  · have e5 : ((s.st : Int) == 5) = false := by simpa using fun e : (s.st : Int) = 5 => h5 (by omega)
    have h5' : decide (s.st = 5) = false := by simpa using h5
    rw [h5']
    go_enter Tryd.func19, Tryd.ntmps19
    go_wp2
    go_ret
    exact ⟨rfl, rfl⟩

theorem stepS_st (s : Dst) (x : Int) (h : s.st ≤ 5) : (stepS s x).st ≤ 5 := by
  unfold stepS
  split
  · split
    · simp [atS]
    · simp only [standS]; split <;> omega
  · split
    · split
      · simp [atS]
      · simp only [standS]; split <;> omega
    · split
      · split
        · simp [atS]
        · simp only [standS]; split <;> omega
      · split
        · split
          · simp [lineS]
          · simp only [standS]; split <;> omega
        · simp only [standS]; split <;> omega
theorem stepS_all (s : Dst) (x : Int) : (stepS s x).all.length ≤ s.all.length + 2 ∧ (stepS s x).line ≤ s.line + 2 := by
  unfold stepS
  repeat' split
  all_goals simp [standS, keepS, bareS, lineS, atS]
theorem feedS_bd : ∀ (l : List Int) (s : Dst), s.st ≤ 5 → (feedS s l).1.st ≤ 5 ∧ (feedS s l).1.all.length ≤ s.all.length + 2 * l.length ∧ (feedS s l).1.line ≤ s.line + 2 * l.length
  | [], s, h => ⟨h, by simp [feedS], by simp [feedS]⟩
  | v :: l, s, h => by
    by_cases h5 : s.st = 5
    · rw [feedS_done h5]; exact ⟨h, by simp, by simp⟩
    · rw [feedS_cons h5]
      have h1 := stepS_all s v
      have h2 := feedS_bd l (stepS s v) (stepS_st s v h)
      simp only [List.length_cons]
      omega
theorem feedS_snoc (s : Dst) (l : List Int) (x : Int) (h : (feedS s l).1.st ≠ 5) : feedS s (l ++ [x]) = (stepS (feedS s l).1 x, l.length + 1) := by
  rw [feedS_append, feedS_cons h, feedS_all l s h]; rfl
/-- the decoder on its way through bytes -/
structure Feeds (g : Nat) (v : Value) (s : Dst) (M : Nat) (l : List Int) (w : World) (k : Nat) (wr : World) : Prop where
  put : ∃ v', Dput g v (feedS s (l.take k)).1 M w v' wr
  used : k = (feedS s (l.take k)).2
  le : k ≤ l.length
theorem Feeds.stop {g : Nat} {v : Value} {s : Dst} {M : Nat} {l : List Int} {w : World} {k : Nat} {wr : World} (h : Feeds g v s M l w k wr) (hd : k = l.length ∨ (feedS s (l.take k)).1.st = 5) : feedS s l = ((feedS s (l.take k)).1, k) := by
  have hu := h.used
  have hk := h.le
  rcases hd with rfl | h5
  · rw [List.take_length] at hu ⊢; exact Prod.ext rfl hu.symm
  · have e : feedS s l = feedS s (l.take k ++ l.drop k) := by rw [List.take_append_drop]
    rw [e, feedS_append, feedS_done h5]
    simp only [Nat.add_zero]
    rw [← hu]
theorem Feeds.next {g : Nat} {v : Value} {s : Dst} {M : Nat} {l : List Int} {w : World} {k : Nat} {wr w' : World} {v1 v2 : Value} (hk : k < l.length) (h5 : (feedS s (l.take k)).1.st ≠ 5) (hp : Dput g v (feedS s (l.take k)).1 M w v1 wr) (hq : Dput g v1 (stepS (feedS s (l.take k)).1 (l.getD k 0)) M wr v2 w') : Feeds g v s M l w (k + 1) w' := by
  have e : l.take (k + 1) = l.take k ++ [l.getD k 0] := by
    rw [List.take_succ_eq_append_getElem hk]; simp [List.getD, hk]
  have hl : (l.take k).length = k := by rw [List.length_take]; omega
  refine ⟨⟨v2, ?_⟩, ?_, hk⟩
  · rw [e, feedS_snoc s _ _ h5]; exact hp.trans hq
  · rw [e, feedS_snoc s _ _ h5, hl]

def FeedP (g : Nat) (v : Value) (s' : Dst) (n : Nat) (M : Nat) (w : World) (e : Ending) (w' : World) : Prop := e = .returned (.tuple #[.int .i64 n, .bool (decide (s'.st = 5))]) ∧ ∃ v', Dput g v s' M w v' w'

set_option maxHeartbeats 2000000 in
theorem feed_any (w : World) (g : Nat) (v : Value) (s : Dst) (M : Nat) (h : Dec w g v s M) (hM : M ≤ 9223372036854775807) (h5 : s.st ≤ 5) (a : Option Addr) (cap : Nat) (l : List Int) (hl : Cells8 w a l) (hb : ∀ x, 0 < l.length → a = some x → x.block ≠ g ∧ v.ownBlock ≠ some x.block) (hlen : s.all.length + 2 * l.length ≤ 50000) (hli : s.line + 2 * l.length ≤ 50000) :
    Calls Tryd.prog 17 #[.pointer (some ⟨g, 0, none⟩), .slice a l.length cap] w (FeedP g v (feedS s l).1 (feedS s l).2 M w) := by
  have H := Lib.hid h
  have HL := Lib.hid hl
  have HB := Lib.hid hb
  have H5 := Lib.hid h5
  have HZ := Lib.hid hlen
  have HZ2 := Lib.hid hli
  have hll : l.length ≤ 25000 := by omega
  clear h hl hb h5 hlen hli
  go_enter Tryd.func17, Tryd.ntmps17
  go_wp2
  go_loopw [4] (fun i wr => ∃ k : Nat, i = .int .i64 k ∧ Feeds g v s M l w k wr) (fun i _ => l.length - (intOf i).toNat)
  case atStart => exact ⟨0, rfl, ⟨v, by simpa [feedS] using Dput.refl H.out⟩, by simp [feedS], Nat.zero_le _⟩
  case round =>
    obtain ⟨k, rfl, hf⟩ := hrel
    have hkl := hf.le
    have HF := Lib.hid hf
    clear hf
    obtain ⟨v1, hp⟩ := HF.out.put
    have HP := Lib.hid hp
    clear hp
    by_cases hk : k < l.length
    · have hbd := feedS_bd (l.take k) s H5.out
      have hlk : (l.take k).length = k := by rw [List.length_take]; omega
      rw [hlk] at hbd
      have HBD := Lib.hid hbd
      clear hbd hlk
      by_cases hst : (feedS s (l.take k)).1.st = 5
      · have HD := Lib.hid (done_any wr g v1 _ M HP.out.dec true (by rw [hst]; rfl))
        have HS := Lib.hid hst
        clear hst
        go_wp2_with (go_at_call 19; refine HD.out.mono ?_; rintro e w' ⟨rfl, rfl⟩)
        go_ret2
        have hs := HF.out.stop (Or.inr HS.out)
        exact ⟨by rw [hs, HS.out]; rfl, v1, by rw [hs]; exact HP.out⟩
      · have HS := Lib.hid hst
        have HD := Lib.hid (done_any wr g v1 _ M HP.out.dec false (by simp [hst]))
        clear hst
        obtain ⟨b0, o0, rfl, hb0⟩ := HL.out.addr (by omega)
        have hc := (HL.out.mod HP.out.mod (by
          intro x hx
          obtain ⟨q1, q2⟩ := HB.out x (by omega) hx
          simp only [List.mem_cons, Option.mem_toList, not_or]
          exact ⟨q1, q2⟩)).at k hk
        have hx := HL.out.1.getD k
        generalize hgx : l.getD k 0 = x at hc hx
        have HGX := Lib.hid hgx
        clear hgx
        have hst4 : (feedS s (l.take k)).1.st < 5 := by have := HBD.out.1; have := HS.out; omega
        have HT := Lib.hid (take_any wr g v1 _ M HP.out.dec hM (by have := HBD.out; have := HZ.out; omega) (by have := HBD.out; have := HZ2.out; omega) hst4 x hx)
        clear hx hst4
        go_wp2_with (first
          | ((go_at_call 19; refine HD.out.mono ?_); rintro e w' ⟨rfl, rfl⟩)
          | ((go_at_call 26; with_reducible refine HT.out.mono ?_); rintro e w1 ⟨rfl, v2, hq⟩; have HQ := Lib.hid hq; clear hq hc))
        go_roundw
        case rel => exact ⟨k + 1, by go_num, Feeds.next hk HS.out HP.out (by rw [HGX.out]; exact HQ.out)⟩
        case measure => simp [intOf]; omega
    · have hke : k = l.length := by omega
      have HE := Lib.hid hke
      have HD := Lib.hid (done_any wr g v1 _ M HP.out.dec _ rfl)
      generalize hd : decide ((feedS s (l.take k)).1.st = 5) = d at HD
      have HQ := Lib.hid hd
      clear hd hke
      go_wp2_with ((go_at_call 19; refine HD.out.mono ?_); rintro e w' ⟨rfl, rfl⟩)
      go_ret2
      have hs := HF.out.stop (Or.inl HE.out)
      exact ⟨by rw [hs, ← HQ.out]; rfl, v1, by rw [hs]; exact HP.out⟩
end Go.Proofs.YthcgnnhfkejglaaDoor
