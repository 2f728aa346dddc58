/- Contracts of a source: NewSource, fail, take, U, I, Text, Raw, Left, Err, Done. -/
import Derived.Test.YtdgghfmhnidegaaOctF
namespace Go.Proofs.Ytdgghfmhnidegaa
open Go.ChangeShapes Go.WideShapes Go.ChangeAt Go.RowKit
set_option linter.unusedVariables false
set_option linter.unusedSimpArgs false

/-- the source at block s has the bytes l left, which stand in block g, and the error e -/
structure Srce (w : World) (s g : Nat) (l : List Int) (e : Int) : Prop where
  ex : ∃ a cap, w.heap[s]? = some (.cells #[.slice a l.length cap, .int .i64 e] 64 (0, 0)) ∧ Cells8 w a l ∧ (∀ x, a = some x → x.block = g) ∧ l.length ≤ cap ∧ cap ≤ maxLen
  ne : g ≠ s

theorem Srce.lt {w : World} {s g : Nat} {l : List Int} {e : Int} (h : Srce w s g l e) : s < w.heap.size := by
  obtain ⟨a, cap, hc, _⟩ := h.ex
  exact (Array.getElem?_eq_some_iff.1 hc).1
theorem Srce.mod {F : List Nat} {w w' : World} {s g : Nat} {l : List Int} {e : Int} (h : Srce w s g l e) (hm : Mod F w w') (hs : s ∉ F) (hg : g ∉ F) : Srce w' s g l e := by
  obtain ⟨a, cap, hc, h8, hb, h1, h2⟩ := h.ex
  exact ⟨⟨a, cap, hm.row hc hs, h8.mod hm (fun x hx => by rw [hb x hx]; exact hg), hb, h1, h2⟩, h.ne⟩

theorem two_cell0 {w : World} {b : Nat} {v u : Value} {t : TypeId} (h : w.heap[b]? = some (.cells #[v, u] t (0, 0))) : w.cell? ⟨b, 0, none⟩ = some v := by simp [World.cell?, h]
theorem two_cell1 {w : World} {b : Nat} {v u : Value} {t : TypeId} (h : w.heap[b]? = some (.cells #[v, u] t (0, 0))) : w.cell? ⟨b, 1, none⟩ = some u := by simp [World.cell?, h]
theorem two_free {w : World} {b o : Nat} {v u : Value} {t : TypeId} (h : w.heap[b]? = some (.cells #[v, u] t (0, 0))) : w.frozen? ⟨b, o, none⟩ = false := by simp [World.frozen?, h]
theorem two_set0 {w : World} {b : Nat} {v u x : Value} {t : TypeId} (h : w.heap[b]? = some (.cells #[v, u] t (0, 0))) : (w.setCell ⟨b, 0, none⟩ x).heap[b]? = some (.cells #[x, u] t (0, 0)) := by
  have h2 := heap_setCell_same w b 0 #[v, u] t x h
  simpa using h2
theorem two_set1 {w : World} {b : Nat} {v u x : Value} {t : TypeId} (h : w.heap[b]? = some (.cells #[v, u] t (0, 0))) : (w.setCell ⟨b, 1, none⟩ x).heap[b]? = some (.cells #[v, x] t (0, 0)) := by
  have h2 := heap_setCell_same w b 1 #[v, u] t x h
  simpa using h2

theorem Mod.set (w : World) (s o : Nat) (x : Value) : Mod [s] w (w.setCell ⟨s, o, none⟩ x) := (Mod.refl [s] w).setCell (Or.inl (by simp)) _

theorem Srce.setErr {w : World} {s g : Nat} {l : List Int} {e : Int} (h : Srce w s g l e) (x : Int) : Srce (w.setCell ⟨s, 1, none⟩ (.int .i64 x)) s g l x := by
  obtain ⟨a, cap, hc, h8, hb, h1, h2⟩ := h.ex
  exact ⟨⟨a, cap, two_set1 hc, h8.mod (Mod.set w s 1 _) (fun y hy => by rw [hb y hy]; simpa using h.ne), hb, h1, h2⟩, h.ne⟩

theorem newSource_any (w : World) (a : Option Addr) (cap n : Nat) (l : List Int) (h : Cells8 w a l) (hn : n = l.length) (hl : l.length ≤ 140737488355328) :
    Calls Try.prog 29 #[.slice a n cap] w fun e w' => ∃ s g, e = .returned (.pointer (some ⟨s, 0, none⟩)) ∧ Srce w' s g l 0 ∧ w.heap.size ≤ s ∧ w.heap.size ≤ g ∧ Mod [] w w' := by
  have hcl := clone_any w a cap _ l h hn hl
  have HC := Lib.hid hcl
  have hb := h.1
  have HB := Lib.hid hb
  clear hcl h hn hb
  go_enter Try.func29, Try.ntmps29
  go_wp2_with (go_at_call 41; refine HC.out.mono ?_; rintro e w1 ⟨a1, cap1, rfl, h1, h2⟩; have H1 := Lib.hid h1; have H2 := Lib.hid h2; clear h1 h2)
  go_ret
  have hm := Mod.ofBelow H2.out
  have hsz := hm.size
  obtain ⟨_, _, hv, _, hcm⟩ := owns_shape H1.out
  have hcap : l.length ≤ cap1 ∧ cap1 ≤ maxLen := by
    rcases H1.out.2 with ⟨h3, h4⟩ | ⟨g, c, cur, h3, _, _, h5, h6, _⟩
    · simp at h3; omega
    · simp at h3; omega
  have h8 := (Cells8.ofOwns HB.out H1.out).mod ((Mod.refl [] w1).alloc (.cells #[.slice a1 l.length cap1, .int .i64 0] 64)) (by simp)
  cases a1 with
  | none => exact ⟨w1.heap.size, w1.heap.size + 1, rfl, ⟨⟨none, cap1, heap_alloc_new w1 _, h8, by simp, hcap.1, hcap.2⟩, by omega⟩, by omega, by omega, hm.alloc _⟩
  | some x =>
    have hx := H1.out.lt x.block rfl
    exact ⟨w1.heap.size, x.block, rfl, ⟨⟨some x, cap1, heap_alloc_new w1 _, h8, by simp, hcap.1, hcap.2⟩, by omega⟩, by omega, hx.1, hm.alloc _⟩

theorem left_any (w : World) (s g : Nat) (l : List Int) (er : Int) (h : Srce w s g l er) :
    Calls Try.prog 35 #[.pointer (some ⟨s, 0, none⟩)] w fun e w' => e = .returned (.int .i64 l.length) ∧ w = w' := by
  obtain ⟨a, cap, hc, _⟩ := h.ex
  have hc0 := two_cell0 hc
  clear hc h
  go_enter Try.func35, Try.ntmps35
  go_wp2
  go_ret
  exact ⟨rfl, rfl⟩
theorem err_any (w : World) (s g : Nat) (l : List Int) (er : Int) (h : Srce w s g l er) :
    Calls Try.prog 34 #[.pointer (some ⟨s, 0, none⟩)] w fun e w' => e = .returned (.int .i64 er) ∧ w = w' := by
  obtain ⟨a, cap, hc, _⟩ := h.ex
  have hc0 := two_cell1 hc
  clear hc h
  go_enter Try.func34, Try.ntmps34
  go_wp2
  go_ret
  exact ⟨rfl, rfl⟩
def doneE (l : List Int) (e : Int) : Int := if e = 0 ∧ 0 < l.length then 3 else e
theorem done_any (w : World) (s g : Nat) (l : List Int) (er : Int) (h : Srce w s g l er) :
    Calls Try.prog 36 #[.pointer (some ⟨s, 0, none⟩)] w fun e w' => e = .returned (.int .i64 (doneE l er)) ∧ w = w' := by
  obtain ⟨a, cap, hc, _⟩ := h.ex
  have hc0 := two_cell0 hc
  have hc1 := two_cell1 hc
  clear hc h
  by_cases h1 : er = 0
  · subst h1
    by_cases h2 : 0 < l.length
    · have hd : doneE l 0 = 3 := if_pos ⟨rfl, h2⟩
      have h2' : (0 : Int) < l.length := by omega
      go_enter Try.func36, Try.ntmps36
      go_wp2
      go_ret
      exact ⟨ret_int (by simp [hd]), rfl⟩
    · have hd : doneE l 0 = 0 := if_neg (fun h => h2 h.2)
      have h2' : ¬ (0 : Int) < l.length := by omega
      go_enter Try.func36, Try.ntmps36
      go_wp2
      go_ret
      exact ⟨ret_int (by simp [hd]), rfl⟩
  · have hd : doneE l er = er := by simp [doneE, h1]
    have h1' : (er == 0) = false := by simpa using h1
    go_enter Try.func36, Try.ntmps36
    go_wp2
    go_ret
    exact ⟨ret_int (by simp [hd]), rfl⟩

def failE (e x : Int) : Int := if e = 0 then x else e
theorem fail_any (w : World) (s g : Nat) (l : List Int) (er x : Int) (h : Srce w s g l er) :
    Calls Try.prog 42 #[.pointer (some ⟨s, 0, none⟩), .int .i64 x] w fun e w' => e = .returned (.tuple #[]) ∧ Srce w' s g l (failE er x) ∧ Mod [s] w w' := by
  have h' := h
  obtain ⟨a, cap, hc, _⟩ := h.ex
  have hc1 := two_cell1 hc
  have hf : w.frozen? ⟨s, 1, none⟩ = false := two_free hc
  have H := Lib.hid h'
  clear hc h h'
  by_cases h1 : er = 0
  · subst h1
    have hd : failE 0 x = x := by simp [failE]
    go_enter Try.func42, Try.ntmps42
    go_wp2
    go_end0
    rw [hd]
    exact ⟨rfl, H.out.setErr x, Mod.set _ _ _ _⟩
  · have hd : failE er x = er := by simp [failE, h1]
    have h1' : (er == 0) = false := by simpa using h1
    go_enter Try.func42, Try.ntmps42
    go_wp2
    go_end0
    rw [hd]
    exact ⟨rfl, H.out, Mod.refl _ _⟩

def takeE (l : List Int) (e n : Int) : Int := if e ≠ 0 then e else if (l.length : Int) < n then 2 else 0
def takeR (l : List Int) (e n : Int) : List Int := if takeE l e n = 0 then l.take n.toNat else []
def takeL (l : List Int) (e n : Int) : List Int := if takeE l e n = 0 then l.drop n.toNat else l

/-- a slice of what the source has, and the source behind it -/
def Took (w : World) (s g : Nat) (l : List Int) (er n : Int) (e : Ending) (w' : World) : Prop :=
  ∃ a cap, e = .returned (.slice a (takeR l er n).length cap) ∧ Cells8 w' a (takeR l er n) ∧ (takeR l er n).length ≤ cap ∧ (∀ x, a = some x → x.block = g) ∧ Srce w' s g (takeL l er n) (takeE l er n) ∧ Mod [s] w w'

theorem took_of {w : World} {s g : Nat} {l : List Int} {a : Option Addr} {cap m : Nat} (hc : w.heap[s]? = some (.cells #[.slice a l.length cap, .int .i64 0] 64 (0, 0))) (h8 : Cells8 w a l)
    (hk : ∀ x, a = some x → x.block = g) (hne : g ≠ s) (hl1 : l.length ≤ cap) (hl2 : cap ≤ maxLen) (hm : m ≤ l.length) (a2 : Option Addr) (h2 : (cap = m ∧ a2 = a) ∨ (¬ cap = m ∧ a2 = a.map (·.add m))) :
    Took w s g l 0 m (.returned (.slice a m cap)) (w.setCell ⟨s, 0, none⟩ (.slice a2 (l.length - m) (cap - m))) := by
  have hlt : ¬ (l.length : Int) < m := by omega
  have e0 : takeE l 0 m = 0 := by simp [takeE]; omega
  have e1 : takeR l 0 m = l.take m := by simp [takeR, e0]
  have e2 : takeL l 0 m = l.drop m := by simp [takeL, e0]
  have hlen : (l.take m).length = m := by simp; omega
  have hdl : (l.drop m).length = l.length - m := by simp
  have hset := Mod.set w s 0 (.slice a2 (l.length - m) (cap - m))
  have h8' : Cells8 (w.setCell ⟨s, 0, none⟩ (.slice a2 (l.length - m) (cap - m))) a l := h8.mod hset (fun y hy => by rw [hk y hy]; simpa using hne)
  unfold Took
  rw [e0, e1, e2]
  refine ⟨a, cap, by rw [hlen], h8'.take m, by omega, hk, ⟨⟨a2, cap - m, by rw [hdl]; exact two_set0 hc, ?_, ?_, by omega, by omega⟩, hne⟩, hset⟩
  · rcases h2 with ⟨h3, rfl⟩ | ⟨h3, rfl⟩
    · have : l.drop m = [] := List.drop_eq_nil_of_le (by omega)
      rw [this]; exact Cells8.nil _ _
    · rcases h8'.2 with h4 | ⟨b, o, rfl, _⟩
      · subst h4; simp; exact Cells8.nil _ _
      · simpa [Addr.add_lit] using h8'.drop m
  · rcases h2 with ⟨h3, rfl⟩ | ⟨h3, rfl⟩
    · exact hk
    · intro x hx
      obtain ⟨y, hy, rfl⟩ := Option.map_eq_some_iff.1 hx
      have := hk y hy
      unfold Addr.add
      split <;> simp_all

theorem take_any (w : World) (s g : Nat) (l : List Int) (er n : Int) (h : Srce w s g l er) (hn : er = 0 → 0 ≤ n) :
    Calls Try.prog 43 #[.pointer (some ⟨s, 0, none⟩), .int .i64 n] w (Took w s g l er n) := by
  have h' := h
  obtain ⟨a, cap, hc, h8, hbk, hl1, hl2⟩ := h.ex
  have hc0 := two_cell0 hc
  have hc1 := two_cell1 hc
  have hf0 : w.frozen? ⟨s, 0, none⟩ = false := two_free hc
  have H := Lib.hid h'
  have HC := Lib.hid hc
  have H8 := Lib.hid h8
  have HK := Lib.hid hbk
  clear hc h h' h8 hbk
  by_cases he : er = 0
  case neg =>
    have e0 : takeE l er n = er := by simp [takeE, he]
    have e1 : takeR l er n = [] := by simp [takeR, e0, he]
    have e2 : takeL l er n = l := by simp [takeL, e0, he]
    have hfe : failE er 2 = er := by simp [failE, he]
    have h1' : (er == 0) = false := by simpa using he
    have h2' : (er != 0) = true := by simpa using he
    have fin : ∀ w', Srce w' s g l er → Mod [s] w w' → Took w s g l er n (.returned (.slice none 0 0)) w' := fun w' k1 k2 => by
      unfold Took; rw [e0, e1, e2]; exact ⟨none, 0, rfl, Cells8.nil _ _, Nat.le_refl _, by simp, k1, k2⟩
    have Hfin := Lib.hid fin
    have hfl := fail_any w s g l er 2 H.out
    rw [hfe] at hfl
    have Hfl := Lib.hid hfl
    clear e0 e1 e2 hfe fin hfl hn hf0
    by_cases hlt : (l.length : Int) < n
    · go_enter Try.func43, Try.ntmps43
      go_wp2_with (go_at_call 42; refine Hfl.out.mono ?_; rintro e w1 ⟨rfl, k1, k2⟩; obtain ⟨a1, cap1, hd, _⟩ := k1.ex; have hd1 := two_cell1 hd; have K1 := Lib.hid k1; have K2 := Lib.hid k2; clear k1 k2 hd)
      go_ret
      exact Hfin.out _ K1.out K2.out
    · go_enter Try.func43, Try.ntmps43
      go_wp2_with fail
      go_ret
      exact Hfin.out _ H.out (Mod.refl _ _)
  subst he
  have hn0 := hn rfl
  clear hn
  by_cases hlt : (l.length : Int) < n
  · have e0 : takeE l 0 n = 2 := by simp [takeE, hlt]
    have e1 : takeR l 0 n = [] := by simp [takeR, e0]
    have e2 : takeL l 0 n = l := by simp [takeL, e0]
    have fin : ∀ w', Srce w' s g l 2 → Mod [s] w w' → Took w s g l 0 n (.returned (.slice none 0 0)) w' := fun w' k1 k2 => by
      unfold Took; rw [e0, e1, e2]; exact ⟨none, 0, rfl, Cells8.nil _ _, Nat.le_refl _, by simp, k1, k2⟩
    have Hfin := Lib.hid fin
    have hfl := fail_any w s g l 0 2 H.out
    have Hfl := Lib.hid hfl
    clear e0 e1 e2 fin hfl hf0
    go_enter Try.func43, Try.ntmps43
    go_wp2_with (go_at_call 42; refine Hfl.out.mono ?_; rintro e w1 ⟨rfl, k1, k2⟩; have k1' : Srce w1 s g l 2 := k1; obtain ⟨a1, cap1, hd, _⟩ := k1'.ex; have hd1 := two_cell1 hd; have K1 := Lib.hid k1'; have K2 := Lib.hid k2; clear k1 k1' k2 hd)
    go_ret
    exact Hfin.out _ K1.out K2.out
  · obtain ⟨m, rfl⟩ := Int.eq_ofNat_of_zero_le hn0
    have hmc : m ≤ cap := by omega
    have hml : m ≤ l.length := by omega
    by_cases hcm : cap = m
    · have hml2 : l.length = m := by omega
      subst hcm
      go_enter Try.func43, Try.ntmps43
      go_wp2_with fail
      go_ret
      have t := took_of HC.out H8.out HK.out H.out.ne hl1 hl2 hml a (Or.inl ⟨rfl, rfl⟩)
      rw [show l.length - cap = 0 by omega, Nat.sub_self] at t
      exact t
    · go_enter Try.func43, Try.ntmps43
      go_wp2_with fail
      go_ret
      exact took_of HC.out H8.out HK.out H.out.ne hl1 hl2 hml _ (Or.inr ⟨hcm, rfl⟩)
end Go.Proofs.Ytdgghfmhnidegaa
