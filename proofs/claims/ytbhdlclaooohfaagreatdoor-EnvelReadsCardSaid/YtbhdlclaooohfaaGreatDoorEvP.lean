import Derived.Test.YtbhdlclaooohfaaGreatDoorFrU
/- Jobs, as mathematics: what is written of them, and how it is read. -/
namespace Go.Proofs.YtbhdlclaooohfaaGreatDoor
open Go Go.RowKit
set_option linter.unusedVariables false
set_option linter.unusedSimpArgs false

structure JSt where
  st : Int
  tries : Int
  due : Int
  code : Int
structure JTg where
  user : Int
  loc : List Int
  dom : List Int
structure JEnv where
  id : Int
  arr : Int
  floc : List Int
  fdom : List Int
  to : List JTg
/-- a state is right -/
def stB (s : JSt) : Bool := decide (0 ≤ s.st ∧ s.st ≤ 3) && (decide (0 ≤ s.tries ∧ s.tries ≤ 65535) && (decide (0 ≤ s.due ∧ s.due ≤ 4503599627370496) && (decide (s.code = 0) || decide (200 ≤ s.code ∧ s.code ≤ 599))))
def freshS (a : Int) : JSt := ⟨0, 0, a, 0⟩
/-- what is told of a reader: how far it is, and whether something lacked -/
structure RdS where
  at_ : Nat
  bad : Bool
def nmR (l : List Int) (s : RdS) (k : Nat) : Int := if s.bad = true ∨ l.length < s.at_ + k then 0 else val ((l.drop s.at_).take k)
def nmS (l : List Int) (s : RdS) (k : Nat) : RdS := if s.bad = true ∨ l.length < s.at_ + k then ⟨s.at_, true⟩ else ⟨s.at_ + k, false⟩
def txR (l : List Int) (s : RdS) : List Int := if (nmS l s 4).bad = true ∨ l.length < (nmS l s 4).at_ + (nmR l s 4).toNat then [] else (l.drop (nmS l s 4).at_).take (nmR l s 4).toNat
def txS (l : List Int) (s : RdS) : RdS := if (nmS l s 4).bad = true ∨ l.length < (nmS l s 4).at_ + (nmR l s 4).toNat then ⟨(nmS l s 4).at_, true⟩ else ⟨(nmS l s 4).at_ + (nmR l s 4).toNat, false⟩
def tgR (l : List Int) (s : RdS) : JTg := ⟨nmR l s 2, txR l (nmS l s 2), txR l (txS l (nmS l s 2))⟩
def tgS (l : List Int) (s : RdS) : RdS := txS l (txS l (nmS l s 2))
def tosR (l : List Int) : Nat → RdS → List JTg
  | 0, _ => []
  | n + 1, s => tgR l s :: tosR l n (tgS l s)
def tosS (l : List Int) : Nat → RdS → RdS
  | 0, s => s
  | n + 1, s => tosS l n (tgS l s)
theorem tosR_snoc (l : List Int) : ∀ (n : Nat) (s : RdS), tosR l (n + 1) s = tosR l n s ++ [tgR l (tosS l n s)] ∧ tosS l (n + 1) s = tgS l (tosS l n s) := by
  intro n
  induction n with
  | zero => intro s; exact ⟨rfl, rfl⟩
  | succ n ih =>
    intro s
    obtain ⟨h1, h2⟩ := ih (tgS l s)
    refine ⟨?_, h2⟩
    show tgR l s :: tosR l (n + 1) (tgS l s) = (tgR l s :: tosR l n (tgS l s)) ++ [tgR l (tosS l n (tgS l s))]
    rw [h1]; rfl
theorem tosR_length (l : List Int) : ∀ (n : Nat) (s : RdS), (tosR l n s).length = n := by
  intro n
  induction n with
  | zero => intro s; rfl
  | succ n ih => intro s; simp [tosR, ih]
/-- the reader's states behind the numbers ahead of the targets -/
def hd1 (l : List Int) : RdS := nmS l ⟨0, false⟩ 8
def hd2 (l : List Int) : RdS := nmS l (hd1 l) 8
def hd3 (l : List Int) : RdS := txS l (hd2 l)
def hd4 (l : List Int) : RdS := txS l (hd3 l)
def hd5 (l : List Int) : RdS := nmS l (hd4 l) 1
def hdN (l : List Int) : Nat := (nmR l (hd4 l) 1).toNat
/-- a job's first frame, read -/
def hdR (l : List Int) : JEnv := ⟨nmR l ⟨0, false⟩ 8, nmR l (hd1 l) 8, txR l (hd2 l), txR l (hd3 l), tosR l (hdN l) (hd5 l)⟩
def hdS (l : List Int) : RdS := tosS l (hdN l) (hd5 l)
def hdB (l : List Int) : Bool := !(hdS l).bad && decide ((hdS l).at_ = l.length)
/-- a step's payload, read: the target, the state, whether it is whole -/
def sp1 (l : List Int) : RdS := nmS l ⟨0, false⟩ 1
def sp2 (l : List Int) : RdS := nmS l (sp1 l) 1
def sp3 (l : List Int) : RdS := nmS l (sp2 l) 2
def sp4 (l : List Int) : RdS := nmS l (sp3 l) 8
def sp5 (l : List Int) : RdS := nmS l (sp4 l) 2
def spT (l : List Int) : Int := nmR l ⟨0, false⟩ 1
def spR (l : List Int) : JSt := ⟨nmR l (sp1 l) 1, nmR l (sp2 l) 2, nmR l (sp3 l) 8, nmR l (sp4 l) 2⟩
def spB (l : List Int) : Bool := !(sp5 l).bad && decide ((sp5 l).at_ = l.length)
/-- a frame that is a right step of a job with n targets -/
def stepB (n : Nat) (f : FV) : Bool := decide (f.kind = 18) && (spB f.pay && (decide (spT f.pay < n) && stB (spR f.pay)))
/-- the states, and how many bytes, behind the steps that stand there -/
def stepsR (n : Nat) : List FV → List JSt → Int → List JSt × Int
  | [], sts, u => (sts, u)
  | f :: fs, sts, u => if stepB n f = true then stepsR n fs (sts.set (spT f.pay).toNat (spR f.pay)) (u + f.len) else (sts, u)

-- writing
def txL (t : List Int) : List Int := be t.length 4 ++ t
def tgL (t : JTg) : List Int := be t.user 2 ++ (txL t.loc ++ txL t.dom)
def hdL (e : JEnv) : List Int := be e.id 8 ++ (be e.arr 8 ++ (txL e.floc ++ (txL e.fdom ++ (be e.to.length 1 ++ e.to.flatMap tgL))))
def spL (i : Int) (s : JSt) : List Int := be i 1 ++ (be s.st 1 ++ (be s.tries 2 ++ (be s.due 8 ++ be s.code 2)))
/-- the reader stands ahead of these bytes -/
structure Ahead (l : List Int) (s : RdS) (r : List Int) : Prop where
  bad : s.bad = false
  rest : l.drop s.at_ = r
  le : s.at_ ≤ l.length
theorem Ahead.start (l : List Int) : Ahead l ⟨0, false⟩ l := ⟨rfl, rfl, Nat.zero_le _⟩
theorem Ahead.fin {l : List Int} {s : RdS} (h : Ahead l s []) : s.at_ = l.length := by
  have h1 := congrArg List.length h.rest
  rw [List.length_drop] at h1
  have h2 := h.le
  simp at h1; omega
theorem nm_ok {l : List Int} {s : RdS} {x : Int} {k : Nat} {r : List Int} (h : Ahead l s (be x k ++ r)) (h0 : 0 ≤ x) (h1 : x < 256 ^ k) : nmR l s k = x ∧ Ahead l (nmS l s k) r := by
  have hl : l.length - s.at_ = k + r.length := by
    have := congrArg List.length h.rest
    rw [List.length_drop, List.length_append, be_length] at this
    exact this
  have hle := h.le
  have hn : ¬ (s.bad = true ∨ l.length < s.at_ + k) := by
    rw [h.bad]; simp; omega
  unfold nmR nmS
  rw [if_neg hn, if_neg hn, h.rest]
  refine ⟨?_, rfl, ?_, by show s.at_ + k ≤ _; omega⟩
  · rw [List.take_left' (be_length k x), val_be, Int.emod_eq_of_lt h0 h1]
  · show l.drop (s.at_ + k) = r
    rw [← List.drop_drop, h.rest, List.drop_left' (be_length k x)]
theorem tx_ok {l : List Int} {s : RdS} {t r : List Int} (h : Ahead l s (txL t ++ r)) (ht : t.length < 4294967296) : txR l s = t ∧ Ahead l (txS l s) r := by
  unfold txL at h
  rw [List.append_assoc] at h
  obtain ⟨h1, h2⟩ := nm_ok h (by omega) (by show (t.length : Int) < 256 ^ 4; omega)
  have hl : l.length - (nmS l s 4).at_ = t.length + r.length := by
    have := congrArg List.length h2.rest
    rw [List.length_drop, List.length_append] at this
    exact this
  have hle := h2.le
  have hn : ¬ ((nmS l s 4).bad = true ∨ l.length < (nmS l s 4).at_ + (nmR l s 4).toNat) := by
    rw [h2.bad, h1]; simp; omega
  unfold txR txS
  rw [if_neg hn, if_neg hn, h1, Int.toNat_natCast, h2.rest]
  refine ⟨by simp, rfl, ?_, by show (nmS l s 4).at_ + t.length ≤ _; omega⟩
  show l.drop ((nmS l s 4).at_ + t.length) = r
  rw [← List.drop_drop, h2.rest]; simp
/-- a target whose fields fit -/
def TgFit (t : JTg) : Prop := (0 ≤ t.user ∧ t.user < 65536) ∧ t.loc.length < 4294967296 ∧ t.dom.length < 4294967296
theorem tg_ok {l : List Int} {s : RdS} {t : JTg} {r : List Int} (h : Ahead l s (tgL t ++ r)) (ht : TgFit t) : tgR l s = t ∧ Ahead l (tgS l s) r := by
  unfold tgL at h
  rw [List.append_assoc, List.append_assoc] at h
  obtain ⟨h1, h2⟩ := nm_ok h ht.1.1 (by have := ht.1.2; show _ < (256 : Int) ^ 2; omega)
  obtain ⟨h3, h4⟩ := tx_ok h2 ht.2.1
  obtain ⟨h5, h6⟩ := tx_ok h4 ht.2.2
  refine ⟨?_, h6⟩
  unfold tgR
  rw [h1, h3, h5]
theorem tos_ok {l : List Int} : ∀ (ts : List JTg) (s : RdS) (r : List Int), Ahead l s (ts.flatMap tgL ++ r) → (∀ t ∈ ts, TgFit t) → tosR l ts.length s = ts ∧ Ahead l (tosS l ts.length s) r := by
  intro ts
  induction ts with
  | nil => intro s r h _; exact ⟨rfl, by show Ahead l s r; simpa using h⟩
  | cons t ts ih =>
    intro s r h ht
    rw [List.flatMap_cons, List.append_assoc] at h
    obtain ⟨h1, h2⟩ := tg_ok h (ht t (by simp))
    obtain ⟨h3, h4⟩ := ih (tgS l s) r h2 (fun x hx => ht x (by simp [hx]))
    exact ⟨by show tgR l s :: tosR l ts.length (tgS l s) = _; rw [h1, h3], h4⟩
structure EnvFit (e : JEnv) : Prop where
  id : 0 ≤ e.id ∧ e.id < 18446744073709551616
  arr : 0 ≤ e.arr ∧ e.arr < 18446744073709551616
  fl : e.floc.length < 4294967296
  fd : e.fdom.length < 4294967296
  n : e.to.length < 256
  to : ∀ t ∈ e.to, TgFit t
/-- a job's first frame is read as it was written -/
theorem hd_ok {e : JEnv} (h : EnvFit e) : hdR (hdL e) = e ∧ hdB (hdL e) = true := by
  have h0 := Ahead.start (hdL e)
  have hL : hdL e = be e.id 8 ++ (be e.arr 8 ++ (txL e.floc ++ (txL e.fdom ++ (be e.to.length 1 ++ (e.to.flatMap tgL ++ []))))) := by simp [hdL]
  have h0' : Ahead (hdL e) ⟨0, false⟩ (be e.id 8 ++ (be e.arr 8 ++ (txL e.floc ++ (txL e.fdom ++ (be e.to.length 1 ++ (e.to.flatMap tgL ++ [])))))) := ⟨h0.bad, h0.rest.trans hL, h0.le⟩
  obtain ⟨a1, h1⟩ := nm_ok h0' h.id.1 (by have := h.id.2; show _ < (256 : Int) ^ 8; omega)
  obtain ⟨a2, h2⟩ := nm_ok h1 h.arr.1 (by have := h.arr.2; show _ < (256 : Int) ^ 8; omega)
  obtain ⟨a3, h3⟩ := tx_ok h2 h.fl
  obtain ⟨a4, h4⟩ := tx_ok h3 h.fd
  obtain ⟨a5, h5⟩ := nm_ok h4 (by omega) (by have := h.n; show _ < (256 : Int) ^ 1; omega)
  have hN : hdN (hdL e) = e.to.length := by
    show (nmR (hdL e) (hd4 (hdL e)) 1).toNat = _
    rw [show nmR (hdL e) (hd4 (hdL e)) 1 = _ from a5]; simp
  obtain ⟨a6, h6⟩ := tos_ok e.to _ [] h5 h.to
  refine ⟨?_, ?_⟩
  · unfold hdR
    rw [hN]
    rw [show nmR (hdL e) ⟨0, false⟩ 8 = _ from a1, show nmR (hdL e) (hd1 (hdL e)) 8 = _ from a2, show txR (hdL e) (hd2 (hdL e)) = _ from a3, show txR (hdL e) (hd3 (hdL e)) = _ from a4]
    rw [show tosR (hdL e) e.to.length (hd5 (hdL e)) = _ from a6]
  · unfold hdB hdS
    rw [hN]
    have h7 : Ahead (hdL e) (tosS (hdL e) e.to.length (hd5 (hdL e))) [] := h6
    rw [h7.bad, h7.fin]; simp
def StFit (s : JSt) : Prop := (0 ≤ s.st ∧ s.st < 256) ∧ (0 ≤ s.tries ∧ s.tries < 65536) ∧ (0 ≤ s.due ∧ s.due < 18446744073709551616) ∧ (0 ≤ s.code ∧ s.code < 65536)
theorem st_fit {s : JSt} (h : stB s = true) : StFit s := by
  unfold stB at h
  simp only [Bool.and_eq_true, Bool.or_eq_true, decide_eq_true_eq] at h
  unfold StFit
  omega
theorem sp_ok {i : Int} {s : JSt} (hi : 0 ≤ i ∧ i < 256) (h : StFit s) : spT (spL i s) = i ∧ spR (spL i s) = s ∧ spB (spL i s) = true := by
  have h0 := Ahead.start (spL i s)
  have hL : spL i s = be i 1 ++ (be s.st 1 ++ (be s.tries 2 ++ (be s.due 8 ++ (be s.code 2 ++ [])))) := by simp [spL]
  have h0' : Ahead (spL i s) ⟨0, false⟩ (be i 1 ++ (be s.st 1 ++ (be s.tries 2 ++ (be s.due 8 ++ (be s.code 2 ++ []))))) := ⟨h0.bad, h0.rest.trans hL, h0.le⟩
  obtain ⟨⟨b1, b2⟩, ⟨b3, b4⟩, ⟨b5, b6⟩, b7, b8⟩ := h
  obtain ⟨a1, h1⟩ := nm_ok h0' hi.1 (by have := hi.2; show _ < (256 : Int) ^ 1; omega)
  obtain ⟨a2, h2⟩ := nm_ok h1 b1 (by show _ < (256 : Int) ^ 1; omega)
  obtain ⟨a3, h3⟩ := nm_ok h2 b3 (by show _ < (256 : Int) ^ 2; omega)
  obtain ⟨a4, h4⟩ := nm_ok h3 b5 (by show _ < (256 : Int) ^ 8; omega)
  obtain ⟨a5, h5⟩ := nm_ok h4 b7 (by show _ < (256 : Int) ^ 2; omega)
  refine ⟨a1, ?_, ?_⟩
  · unfold spR
    rw [show nmR (spL i s) (sp1 (spL i s)) 1 = _ from a2, show nmR (spL i s) (sp2 (spL i s)) 2 = _ from a3, show nmR (spL i s) (sp3 (spL i s)) 8 = _ from a4, show nmR (spL i s) (sp4 (spL i s)) 2 = _ from a5]
  · unfold spB
    have h7 : Ahead (spL i s) (sp5 (spL i s)) [] := h5
    rw [h7.bad, h7.fin]; simp
end Go.Proofs.YtbhdlclaooohfaaGreatDoor

