/- Mailboxes, as mathematics. -/
import Derived.Test.YtfcdapicemlfgaaDoorMi
import Derived.Test.YtfcdapicemlfgaaDoorRcP
import Derived.Test.YtfcdapicemlfgaaDoorQuP
namespace Go.Proofs.YtfcdapicemlfgaaDoor
open Qu
set_option linter.unusedVariables false
set_option linter.unusedSimpArgs false

/-- an entry -/
structure Ent where
  uid : Int
  time : Int
  flags : Int
  body : Int
  size : Int
  org : Int
  gone : Bool
def Ent.zero : Ent := ⟨0, 0, 0, 0, 0, 0, false⟩
/-- a mailbox -/
structure Bx where
  L : List (Int × Ent)
  O : List (Int × Int)
  ub : Int
  uc : Int
  next : Int
def newX : Bx := ⟨[], [], 0, 0, 1⟩
def raiseX (next n : Int) : Int := if n ≤ 2147483649 then max next n else next
def noteX (O : List (Int × Int)) (org uid : Int) : List (Int × Int) :=
  if org = 0 then O else match findI O org with | none => putI O org uid | some m => if uid < m then putI O org uid else O
def entOf (r : Rc) : Ent := ⟨r.ns.getD 4 0, r.ns.getD 5 0, r.ns.getD 6 0, r.ns.getD 7 0, r.ns.getD 8 0, r.ns.getD 9 0, false⟩
def comeX (b : Bx) (e : Ent) : Bx × Bool :=
  if (findI b.L e.uid).isSome then (b, false)
  else if putB b.ub b.uc e.size then (⟨putI b.L e.uid e, noteX b.O e.org e.uid, b.ub + e.size, b.uc + 1, raiseX b.next (e.uid + 1)⟩, true) else (b, false)
/-- the live entry with a number -/
def liveX (b : Bx) (uid : Int) : Option Ent := match findI b.L uid with | some e => if e.gone then none else some e | none => none
def leaveX (b : Bx) (uid : Int) : Bx × Bool := match liveX b uid with
  | none => (b, false)
  | some e => (⟨putI b.L uid { e with gone := true, flags := 0 }, b.O, if takeB b.ub b.uc e.size then b.ub - e.size else 0, if takeB b.ub b.uc e.size then b.uc - 1 else 0, b.next⟩, true)
def flagX (b : Bx) (uid fl : Int) : Bx × Bool := match liveX b uid with
  | none => (b, false)
  | some e => ({ b with L := putI b.L uid { e with flags := fl } }, true)
def boxX (b : Bx) (r : Rc) : Bx × Bool :=
  if checkE r ≠ 0 then (b, false) else if r.kind = 2 then comeX b (entOf r) else if r.kind = 3 then leaveX b (r.ns.getD 4 0) else if r.kind = 4 then flagX b (r.ns.getD 4 0) (r.ns.getD 6 0) else (b, false)
theorem check_fields {r : Rc} (h : checkE r = 0) : ∀ f ∈ toldL r.kind, loF f ≤ r.ns.getD f 0 ∧ r.ns.getD f 0 ≤ hiF f := by
  intro f hf
  unfold checkE at h
  by_cases h0 : toldL r.kind = []
  · rw [h0] at hf; cases hf
  · rw [if_neg h0] at h
    by_cases h1 : fieldsOk r = false
    · rw [if_pos h1] at h; cases h
    · have h2 : fieldsOk r = true := by simpa using h1
      unfold fieldsOk at h2
      rw [List.all_eq_true] at h2
      exact outB_not.1 (by simpa using h2 f hf)
/-- a message's fields -/
theorem check_msg {r : Rc} (h : checkE r = 0) (hk : r.kind = 2) : (1 ≤ (entOf r).uid ∧ (entOf r).uid ≤ 2147483648) ∧ (0 ≤ (entOf r).size ∧ (entOf r).size ≤ 32768) ∧ (0 ≤ (entOf r).org ∧ (entOf r).org ≤ 9007199254740992) := by
  have hf := check_fields h
  rw [hk] at hf
  exact ⟨hf 4 (by decide), hf 8 (by decide), hf 9 (by decide)⟩
theorem check_uid {r : Rc} (h : checkE r = 0) (hk : r.kind = 2 ∨ r.kind = 3 ∨ r.kind = 4) : 1 ≤ r.ns.getD 4 0 ∧ r.ns.getD 4 0 ≤ 2147483648 := by
  have hf := check_fields h
  rcases hk with hk | hk | hk <;> (rw [hk] at hf; exact hf 4 (by decide))
/-- what always holds of a mailbox behind n records -/
structure InvX (b : Bx) (n : Nat) : Prop where
  next : 1 ≤ b.next ∧ b.next ≤ 2147483649
  ub : 0 ≤ b.ub ∧ b.ub ≤ 32768 * n
  uc : 0 ≤ b.uc ∧ b.uc ≤ n
  key : ∀ k e, findI b.L k = some e → 1 ≤ k ∧ k < b.next
  org : ∀ k m, findI b.O k = some m → 1 ≤ m ∧ m < b.next
theorem InvX.new : InvX newX 0 := ⟨by simp [newX], by simp [newX], by simp [newX], by simp [newX, findI], by simp [newX, findI]⟩
theorem InvX.more {b : Bx} {n : Nat} (h : InvX b n) : InvX b (n + 1) := ⟨h.next, by have := h.ub; omega, by have := h.uc; omega, h.key, h.org⟩
theorem find_noteX {O : List (Int × Int)} {org uid k m : Int} (h : findI (noteX O org uid) k = some m) : m = uid ∨ findI O k = some m := by
  unfold noteX at h
  split at h
  · exact .inr h
  · split at h
    · rw [find_putI] at h
      split at h
      · left; simpa using h.symm
      · exact .inr h
    · split at h
      · rw [find_putI] at h
        split at h
        · left; simpa using h.symm
        · exact .inr h
      · exact .inr h
theorem InvX.come {b : Bx} {n : Nat} (h : InvX b n) {e : Ent} (hu : 1 ≤ e.uid ∧ e.uid ≤ 2147483648) (hs : 0 ≤ e.size ∧ e.size ≤ 32768) : InvX (comeX b e).1 (n + 1) := by
  unfold comeX
  split
  · exact h.more
  · split
    · have h1 := h.next
      have h2 := h.ub
      have h3 := h.uc
      have hr : raiseX b.next (e.uid + 1) = max b.next (e.uid + 1) := if_pos (by omega)
      refine ⟨?_, ?_, ?_, ?_, ?_⟩
      · dsimp only; rw [hr]; omega
      · dsimp only; omega
      · dsimp only; omega
      · intro k x hx
        dsimp only at hx ⊢
        rw [hr]
        rw [find_putI] at hx
        split at hx
        · omega
        · have := h.key k x hx; omega
      · intro k m hm
        dsimp only at hm ⊢
        rw [hr]
        rcases find_noteX hm with rfl | hm
        · omega
        · have := h.org k m hm; omega
    · exact h.more
theorem live_find {b : Bx} {uid : Int} {e : Ent} (h : liveX b uid = some e) : findI b.L uid = some e ∧ e.gone = false := by
  unfold liveX at h
  split at h
  · rename_i x hx
    split at h
    · cases h
    · rename_i hg
      simp only [Option.some.injEq] at h
      subst h
      exact ⟨hx, by simpa using hg⟩
  · cases h
theorem InvX.leave {b : Bx} {n : Nat} (h : InvX b n) {uid : Int} (hs : ∀ e, findI b.L uid = some e → 0 ≤ e.size) : InvX (leaveX b uid).1 (n + 1) := by
  unfold leaveX
  split
  · exact h.more
  · rename_i e he
    have h1 := h.next
    have h2 := h.ub
    have h3 := h.uc
    have hf := (live_find he).1
    have hz := hs e hf
    refine ⟨h1, ?_, ?_, ?_, h.org⟩
    · dsimp only
      split
      · rename_i ht; have := takeB_iff.1 ht; omega
      · omega
    · dsimp only
      split
      · rename_i ht; have := takeB_iff.1 ht; omega
      · omega
    · intro k x hx
      dsimp only at hx ⊢
      rw [find_putI] at hx
      split at hx
      · rename_i hk; subst hk; exact h.key _ e hf
      · exact h.key k x hx
theorem InvX.flag {b : Bx} {n : Nat} (h : InvX b n) {uid fl : Int} : InvX (flagX b uid fl).1 (n + 1) := by
  unfold flagX
  split
  · exact h.more
  · rename_i e he
    have hf := (live_find he).1
    refine ⟨h.next, by have := h.ub; dsimp only; omega, by have := h.uc; dsimp only; omega, ?_, h.org⟩
    intro k x hx
    dsimp only at hx ⊢
    rw [find_putI] at hx
    split at hx
    · rename_i hk; subst hk; exact h.key _ e hf
    · exact h.key k x hx
/-- every entry's size is right -/
def SzX (b : Bx) : Prop := ∀ k e, findI b.L k = some e → 0 ≤ e.size ∧ e.size ≤ 32768
theorem SzX.new : SzX newX := by intro k e h; simp [newX, findI] at h
theorem SzX.box {b : Bx} (h : SzX b) (r : Rc) : SzX (boxX b r).1 := by
  unfold boxX
  by_cases hc : checkE r ≠ 0
  · rw [if_pos hc]; exact h
  · rw [if_neg hc]
    have hc0 : checkE r = 0 := by omega
    by_cases h2 : r.kind = 2
    · rw [if_pos h2]
      have hm := check_msg hc0 h2
      unfold comeX
      split
      · exact h
      · split
        · intro k e hk
          dsimp only at hk
          rw [find_putI] at hk
          split at hk
          · simp only [Option.some.injEq] at hk; subst hk; exact hm.2.1
          · exact h k e hk
        · exact h
    · rw [if_neg h2]
      by_cases h3 : r.kind = 3
      · rw [if_pos h3]
        unfold leaveX
        split
        · exact h
        · rename_i e he
          intro k x hk
          dsimp only at hk
          rw [find_putI] at hk
          split at hk
          · simp only [Option.some.injEq] at hk; subst hk; exact h _ e (live_find he).1
          · exact h k x hk
      · rw [if_neg h3]
        by_cases h4 : r.kind = 4
        · rw [if_pos h4]
          unfold flagX
          split
          · exact h
          · rename_i e he
            intro k x hk
            dsimp only at hk
            rw [find_putI] at hk
            split at hk
            · simp only [Option.some.injEq] at hk; subst hk; exact h _ e (live_find he).1
            · exact h k x hk
        · rw [if_neg h4]; exact h
theorem InvX.box {b : Bx} {n : Nat} (h : InvX b n) (hs : SzX b) (r : Rc) : InvX (boxX b r).1 (n + 1) := by
  unfold boxX
  by_cases hc : checkE r ≠ 0
  · rw [if_pos hc]; exact h.more
  · rw [if_neg hc]
    have hc0 : checkE r = 0 := by omega
    by_cases h2 : r.kind = 2
    · rw [if_pos h2]
      have hm := check_msg hc0 h2
      exact h.come hm.1 hm.2.1
    · rw [if_neg h2]
      by_cases h3 : r.kind = 3
      · rw [if_pos h3]; exact h.leave fun e he => (hs _ e he).1
      · rw [if_neg h3]
        by_cases h4 : r.kind = 4
        · rw [if_pos h4]; exact h.flag
        · rw [if_neg h4]; exact h.more
/-- the record that is made for a new message -/
def makeR (b : Bx) (time flags body size org : Int) : Rc := ⟨2, [0, 0, 0, 0, b.next, time, flags, body, size, org], []⟩
theorem make_no {b : Bx} {r : Rc} (h : checkE r ≠ 0) : boxX b r = (b, false) := by unfold boxX; rw [if_pos h]
/-- such a record is taken, if it is right -/
theorem make_yes {b : Bx} {n : Nat} (h : InvX b n) (hn : n ≤ 1000) {time flags body size org : Int} (hc : checkE (makeR b time flags body size org) = 0) :
    boxX b (makeR b time flags body size org) = (⟨putI b.L b.next ⟨b.next, time, flags, body, size, org, false⟩, noteX b.O org b.next, b.ub + size, b.uc + 1, b.next + 1⟩, true) := by
  have hm := check_msg hc rfl
  have h1 := h.next
  have h2 := h.ub
  have h3 := h.uc
  unfold boxX
  have hk : (makeR b time flags body size org).kind = 2 := rfl
  rw [if_neg (by rw [hc]; simp), if_pos hk]
  have he : entOf (makeR b time flags body size org) = ⟨b.next, time, flags, body, size, org, false⟩ := rfl
  rw [he] at hm ⊢
  dsimp only at hm
  unfold comeX
  dsimp only
  have hf : findI b.L b.next = none := by
    cases hx : findI b.L b.next with
    | none => rfl
    | some e => have := h.key _ e hx; omega
  rw [if_neg (by rw [hf]; simp), if_pos (putB_iff.2 (by unfold MS; omega))]
  have hr : raiseX b.next (b.next + 1) = b.next + 1 := by unfold raiseX; rw [if_pos (by omega)]; omega
  rw [hr]
end Go.Proofs.YtfcdapicemlfgaaDoor
