/- upTo: reading on till there are so many plain bytes. -/
import Derived.Test.YtondgejbmoiggaaDoorFrC
namespace Go.Proofs.YtondgejbmoiggaaDoor
open Go.ChangeShapes Go.WideShapes Go.ChangeAt Go.RowKit
set_option linter.unusedVariables false
set_option linter.unusedSimpArgs false

/-- the reader stands behind m plain bytes that were read from place i on -/
def Stood (w0 w : World) (g : Nat) (b : Value) (l : List Int) (i m : Nat) : Prop :=
  ∃ v, Unv w0 w g b (i + (rdN (l.drop i) m).j) v (rdN (l.drop i) m).xs
def UpP (w0 : World) (g : Nat) (b : Value) (l : List Int) (i m : Nat) (e : Ending) (w' : World) : Prop :=
  e = .returned (.int .i64 (rdN (l.drop i) m).e) ∧ Stood w0 w' g b l i m

theorem Unv.lenCell {w0 w : World} {g : Nat} {b : Value} {at_ : Nat} {v : Value} {xs : List Int} (h : Unv w0 w g b at_ v xs) : ∃ a cap, v = .slice a xs.length cap ∧ w.cell? ⟨g, 2, none⟩ = some (.slice a xs.length cap) := by
  obtain ⟨a, cap, rfl⟩ := h.own.shape
  exact ⟨a, cap, rfl, blk_cell h.blk 2⟩

theorem stood_step {w0 w' : World} {g : Nat} {b v : Value} {l : List Int} {i m : Nat} (he : (rdN (l.drop i) m).e = 0) (hr : rdE ((l.drop i).drop (rdN (l.drop i) m).j) = 0)
    (h : Unv w0 w' g b (nxA ((l.drop i).drop (rdN (l.drop i) m).j) (i + (rdN (l.drop i) m).j)) v (nxX ((l.drop i).drop (rdN (l.drop i) m).j) (rdN (l.drop i) m).xs)) :
    (rdN (l.drop i) (m + 1)).e = 0 ∧ Stood w0 w' g b l i (m + 1) := by
  rw [nxA, nxX, if_pos hr, if_pos hr] at h
  unfold Stood
  rw [rdN_step _ _ he hr]
  exact ⟨rfl, v, by rw [← Nat.add_assoc]; exact h⟩
theorem stood_halt {w0 w' : World} {g : Nat} {b v : Value} {l : List Int} {i m n : Nat} (he : (rdN (l.drop i) m).e = 0) (hr : ¬ rdE ((l.drop i).drop (rdN (l.drop i) m).j) = 0) (hmn : m < n)
    (h : Unv w0 w' g b (nxA ((l.drop i).drop (rdN (l.drop i) m).j) (i + (rdN (l.drop i) m).j)) v (nxX ((l.drop i).drop (rdN (l.drop i) m).j) (rdN (l.drop i) m).xs)) :
    UpP w0 g b l i n (.returned (.int .i64 (rdE ((l.drop i).drop (rdN (l.drop i) m).j)))) w' := by
  rw [nxA, nxX, if_neg hr, if_neg hr] at h
  have h1 := rdN_halt _ _ he hr
  have h2 : rdN (l.drop i) n = rdN (l.drop i) (m + 1) := rdN_err _ _ _ (by rw [h1]; exact hr) (by omega)
  unfold UpP Stood
  rw [h2, h1]
  exact ⟨rfl, v, h⟩

set_option maxHeartbeats 1000000 in
theorem upTo_any (l : List Int) (a : Option Addr) (cap g i m0 n : Nat) (w0 w : World) (hc : Cells8 w0 a l) (hs : Stood w0 w g (.slice a l.length cap) l i m0) (he : (rdN (l.drop i) m0).e = 0) (hm : m0 ≤ n) (hn : n ≤ 1000000000) (hi : i ≤ l.length) (hcap : l.length ≤ cap) (hl : l.length ≤ 9223372036854775807) :
    Calls Tryd.prog 62 #[.pointer (some ⟨g, 0, none⟩), .int .i64 n] w (UpP w0 g (.slice a l.length cap) l i n) := by
  have HC := Lib.hid hc
  have HS := Lib.hid hs
  have HE := Lib.hid he
  clear hc hs he
  go_enter Tryd.func62, Tryd.ntmps62
  go_wp2_with fail
  go_loopg [] (n - m0) (fun k wr => ∃ m : Nat, k + m = n ∧ (rdN (l.drop i) m).e = 0 ∧ Stood w0 wr g (.slice a l.length cap) l i m)
  case atStart => exact ⟨m0, by omega, HE.out, HS.out⟩
  case round =>
    obtain ⟨m, hk, he, v, hu⟩ := hrel
    have HE := Lib.hid he
    have HU := Lib.hid hu
    obtain ⟨av, cv, rfl, hlen⟩ := hu.lenCell
    have hok := rdN_ok (HC.out.1.drop i) m
    have HLX := Lib.hid (hok.2.2.2 he)
    rw [HLX.out] at hlen
    have hxl := rdN_len_le (HC.out.1.drop i) m
    have hjl := rdN_j_le (HC.out.1.drop i) m
    have hNext := next_any l a cap (i + (rdN (l.drop i) m).j) g _ _ w0 wr HC.out hu (by simp only [List.length_drop] at hjl; omega) hcap hl (by rw [HLX.out]; omega)
    rw [← List.drop_drop] at hNext
    have HN := Lib.hid hNext
    clear he hu hok hNext hxl hjl
    by_cases hlt : m < n
    · by_cases hr : rdE ((l.drop i).drop (rdN (l.drop i) m).j) = 0
      · have HR := Lib.hid hr
        have e0 : (rdE ((l.drop i).drop (rdN (l.drop i) m).j) != 0) = false := by rw [hr]; rfl
        generalize hq : rdE ((l.drop i).drop (rdN (l.drop i) m).j) = q at HN e0
        have HQ := Lib.hid hq
        clear hr hq
        go_wp2_with (go_at_call 66; refine HN.out.mono ?_; rintro e w1 ⟨rfl, v1, hu⟩; have HU1 := Lib.hid hu; clear hu)
        go_roundg (n - (m + 1))
        case measure => omega
        case rel => exact ⟨m + 1, by omega, stood_step HE.out HR.out HU1.out⟩
      · have HR := Lib.hid hr
        have e0 : (rdE ((l.drop i).drop (rdN (l.drop i) m).j) != 0) = true := by rw [bne_iff_ne]; exact hr
        have HH : Hid (∀ w' v, Unv w0 w' g (.slice a l.length cap) (nxA ((l.drop i).drop (rdN (l.drop i) m).j) (i + (rdN (l.drop i) m).j)) v (nxX ((l.drop i).drop (rdN (l.drop i) m).j) (rdN (l.drop i) m).xs) → UpP w0 g (.slice a l.length cap) l i n (.returned (.int .i64 (rdE ((l.drop i).drop (rdN (l.drop i) m).j)))) w') := Lib.hid fun w' v h => stood_halt HE.out HR.out hlt h
        generalize hq : rdE ((l.drop i).drop (rdN (l.drop i) m).j) = q at HN e0 HH
        clear hr hq
        go_wp2_with (go_at_call 66; refine HN.out.mono ?_; rintro e w1 ⟨rfl, v1, hu⟩; have HU1 := Lib.hid hu; clear hu)
        go_ret
        exact HH.out _ _ HU1.out
    · obtain rfl : m = n := by omega
      go_wp2_with fail
      go_ret
      exact ⟨by rw [HE.out]; rfl, _, HU.out⟩
end Go.Proofs.YtondgejbmoiggaaDoor
