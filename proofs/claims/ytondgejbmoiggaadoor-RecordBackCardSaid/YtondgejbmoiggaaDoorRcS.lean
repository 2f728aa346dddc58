/- Records one behind the other: what is found of them, as mathematics. -/
import Derived.Test.YtondgejbmoiggaaDoorRcH
import Derived.Test.YtondgejbmoiggaaDoorRcE
import Derived.Test.YtondgejbmoiggaaDoorFrU
namespace Go.Proofs.YtondgejbmoiggaaDoor
open Go.ChangeShapes Go.WideShapes Go.ChangeAt Go.RowKit
set_option linter.unusedVariables false
set_option linter.unusedSimpArgs false

def RcOk (r : Rc) : Prop := r.ns.length = 10 ∧ Bytes r.data
/-- the frames of the records that are right -/
def kps (rs : List Rc) : List KP := rs.filterMap fun r => if checkE r = 0 then some ⟨r.kind, payL r⟩ else none
/-- what is noted of them -/
def accL : List Rc → Nat → List Fo
  | [], _ => []
  | r :: rs, u => if checkE r = 0 then ⟨u, (wrapL r.kind (payL r)).length, r⟩ :: accL rs (u + (wrapL r.kind (payL r)).length) else accL rs u
theorem kps_cons_ok {r : Rc} {rs : List Rc} (h : checkE r = 0) : kps (r :: rs) = ⟨r.kind, payL r⟩ :: kps rs := by simp [kps, h]
theorem kps_cons_no {r : Rc} {rs : List Rc} (h : checkE r ≠ 0) : kps (r :: rs) = kps rs := by simp [kps, h]
theorem kps_snoc (rs : List Rc) (r : Rc) : kps (rs ++ [r]) = kps rs ++ (if checkE r = 0 then [⟨r.kind, payL r⟩] else []) := by
  unfold kps
  rw [List.filterMap_append]
  by_cases h : checkE r = 0 <;> simp [h]
theorem accL_snoc (r : Rc) : ∀ (rs : List Rc) (u : Nat), accL (rs ++ [r]) u = accL rs u ++ (if checkE r = 0 then [⟨((u + (rowL (kps rs)).length : Nat) : Int), (wrapL r.kind (payL r)).length, r⟩] else []) := by
  intro rs
  induction rs with
  | nil => intro u; by_cases h : checkE r = 0 <;> simp [accL, h, kps, rowL_nil]
  | cons x rs ih =>
    intro u
    by_cases h : checkE x = 0
    · simp only [List.cons_append, accL, h, if_true, ih, kps_cons_ok h, rowL_cons, List.length_append, List.cons_append]
      rw [show u + (wrapL x.kind (payL x)).length + (rowL (kps rs)).length = u + ((wrapL x.kind (payL x)).length + (rowL (kps rs)).length) by omega]
    · simp only [List.cons_append, accL, h, if_false, ih, kps_cons_no h]
theorem kps_ok {rs : List Rc} (h : ∀ r ∈ rs, RcOk r) : ∀ x ∈ kps rs, x.ok := by
  intro x hx
  obtain ⟨r, hr, hx⟩ := List.mem_filterMap.1 hx
  split at hx
  · rename_i hc
    simp at hx
    subst hx
    obtain ⟨h1, h2, _⟩ := kind_wrap (h r hr).1 (h r hr).2 hc
    exact ⟨h1, (pay_read (h r hr).1 (h r hr).2 hc).2.2.1, h2⟩
  · cases hx
theorem found_acc : ∀ (rs : List Rc) (u : Nat), (∀ r ∈ rs, RcOk r) → foundL (frsOf u (kps rs)) = accL rs u ∧ takenN (frsOf u (kps rs)) = (rowL (kps rs)).length := by
  intro rs
  induction rs with
  | nil => intro u _; exact ⟨rfl, rfl⟩
  | cons r rs ih =>
    intro u h
    have hr := h r (by simp)
    have ih := fun u => ih u (fun x hx => h x (by simp [hx]))
    by_cases hc : checkE r = 0
    · obtain ⟨h1, h2, _⟩ := pay_read hr.1 hr.2 hc
      obtain ⟨i1, i2⟩ := ih (u + (wrapL r.kind (payL r)).length)
      rw [kps_cons_ok hc, rowL_cons]
      have e1 : foundL (frsOf u (⟨r.kind, payL r⟩ :: kps rs)) = ⟨u, (wrapL r.kind (payL r)).length, r⟩ :: foundL (frsOf (u + (wrapL r.kind (payL r)).length) (kps rs)) := by simp [frsOf, foundL, h1, h2]
      have e2 : takenN (frsOf u (⟨r.kind, payL r⟩ :: kps rs)) = (wrapL r.kind (payL r)).length + takenN (frsOf (u + (wrapL r.kind (payL r)).length) (kps rs)) := by simp [frsOf, takenN, h1]
      rw [e1, e2, i1, i2]
      refine ⟨by simp [accL, hc], by rw [List.length_append]; dsimp only; omega⟩
    · rw [kps_cons_no hc]
      obtain ⟨i1, i2⟩ := ih u
      exact ⟨by rw [i1]; simp [accL, hc], i2⟩
theorem back_scan {rs : List Rc} (h : ∀ r ∈ rs, RcOk r) {k : Nat} (hE : ScEnd (rowL (kps rs)) k) : foundL (scK (rowL (kps rs)) k).fs = accL rs 0 ∧ takenN (scK (rowL (kps rs)) k).fs = (rowL (kps rs)).length := by
  have hps := kps_ok h
  obtain ⟨k0, h1, h2⟩ := sc_behind (A := []) hps Bytes.nil
  rw [List.nil_append] at h1
  have h3 := scK_facts (rowL_bytes hps) k0
  have h4 : (scK (rowL (kps rs)) k0).fs = [] := by have h6 := h3.2.1; rw [h1] at h6; simpa using h6
  have h5 : (scK (rowL (kps rs)) k).fs = frsOf 0 (kps rs) := by
    have := h2 k (by rw [List.nil_append]; exact hE)
    rw [List.nil_append, h4] at this
    simpa using this
  rw [h5]
  exact found_acc rs 0 h
theorem payL_len (r : Rc) : (payL r).length ≤ 48 + r.data.length := by
  rw [payL_part, List.length_append]
  have := partL_len r (toldL r.kind).length
  omega
theorem row_len : ∀ (rs : List Rc), (∀ r ∈ rs, r.data.length ≤ 1000) → (rowL (kps rs)).length ≤ 2200 * rs.length := by
  intro rs
  induction rs with
  | nil => intro _; simp [kps, rowL_nil]
  | cons r rs ih =>
    intro h
    have ih := ih (fun x hx => h x (by simp [hx]))
    have hr := h r (by simp)
    by_cases hc : checkE r = 0
    · rw [kps_cons_ok hc, rowL_cons, List.length_append]
      have h1 := wrapL_length r.kind (payL r)
      have h2 := payL_len r
      simp only [List.length_cons]
      omega
    · rw [kps_cons_no hc]; simp only [List.length_cons]; omega
theorem acc_len : ∀ (rs : List Rc) (u : Nat), (accL rs u).length ≤ rs.length := by
  intro rs
  induction rs with
  | nil => intro u; simp [accL]
  | cons r rs ih =>
    intro u
    by_cases hc : checkE r = 0
    · simp only [accL, hc, if_true, List.length_cons]; have := ih (u + (wrapL r.kind (payL r)).length); omega
    · simp only [accL, hc, if_false, List.length_cons]; have := ih u; omega
theorem acc_ns : ∀ (rs : List Rc) (u : Nat), (∀ r ∈ rs, RcOk r) → ∀ f ∈ accL rs u, f.rc.ns.length = 10 := by
  intro rs
  induction rs with
  | nil => intro u _ f hf; simp [accL] at hf
  | cons r rs ih =>
    intro u h f hf
    by_cases hc : checkE r = 0
    · simp only [accL, hc, if_true] at hf
      rcases List.mem_cons.1 hf with rfl | hf
      · exact (h r (by simp)).1
      · exact ih _ (fun x hx => h x (by simp [hx])) f hf
    · simp only [accL, hc, if_false] at hf
      exact ih _ (fun x hx => h x (by simp [hx])) f hf
end Go.Proofs.YtondgejbmoiggaaDoor
