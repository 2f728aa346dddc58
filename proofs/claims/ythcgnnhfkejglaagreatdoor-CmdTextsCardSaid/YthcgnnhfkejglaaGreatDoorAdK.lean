import Derived.Test.YthcgnnhfkejglaaGreatDoorAdJ
/- The reader: route. -/
namespace Go.Proofs.YthcgnnhfkejglaaGreatDoor
open Go.Shelf Go.ChangeShapes Go.WideShapes Go.ChangeAt Go.RowKit
set_option linter.unusedVariables false
set_option linter.unusedSimpArgs false

/-- one hop -/
def hopS (l : List Int) : Spec := fun i g ok j h => (ok = true → hopN (l.drop i) = some (j - i) ∧ i < j ∧ h = (g || decide (64 < j - i - 1))) ∧ (ok = false → hopN (l.drop i) = none)
theorem PartS.hops {l : List Int} {i j : Nat} {g h ok : Bool} (hp : PartS (hopS l) l 44 i g ok j h) :
    ∀ k, (l.drop i).length < k → (ok = true → i ≤ j ∧ hopsF k (l.drop i) g = some (j - i, h)) ∧ (ok = false → hopsF k (l.drop i) g = none) := by
  induction hp with
  | bad hs =>
    intro k hk
    obtain ⟨k, rfl⟩ : ∃ m, k = m + 1 := ⟨k - 1, by omega⟩
    refine ⟨by simp, fun _ => ?_⟩
    simp [hopsF, hs.2 rfl]
  | @last i g j h hs hc =>
    intro k hk
    obtain ⟨k, rfl⟩ : ∃ m, k = m + 1 := ⟨k - 1, by omega⟩
    obtain ⟨h1, h2, h3⟩ := hs.1 rfl
    refine ⟨fun _ => ⟨by omega, ?_⟩, by simp⟩
    have e : i + (j - i) = j := by omega
    have hc' : ¬ (l.drop i)[j - i]? = some 44 := by rw [List.getElem?_drop, e]; intro x; rw [x] at hc; simp at hc
    simp only [hopsF, h1]
    rw [if_neg hc', h3]
  | @more i g j h ok k2 u hs hc hrest ih =>
    intro k hk
    obtain ⟨k, rfl⟩ : ∃ m, k = m + 1 := ⟨k - 1, by omega⟩
    obtain ⟨h1, h2, h3⟩ := hs.1 rfl
    have e : i + (j - i) = j := by omega
    have hc' : (l.drop i)[j - i]? = some 44 := by rw [List.getElem?_drop, e]; simpa using hc
    have hd : (l.drop i).drop (j - i + 1) = l.drop (j + 1) := by rw [List.drop_drop]; congr 1; omega
    have hjl := (getD_at (by simpa using hc)).1
    obtain ⟨i1, i2⟩ := ih k (by simp at hk ⊢; omega)
    refine ⟨fun hok => ?_, fun hok => ?_⟩
    · obtain ⟨i3, i4⟩ := i1 hok
      refine ⟨by omega, ?_⟩
      simp only [hopsF, h1]
      rw [if_pos hc', hd, ← h3, i4]
      simp
      omega
    · simp only [hopsF, h1]
      rw [if_pos hc', hd, ← h3, i2 hok]; rfl

theorem hopN_at {l : List Int} {i : Nat} (h : (l[i]? == some 64) = true) : hopN (l.drop i) = (domN (l.drop (i + 1))).map (· + 1) := by
  obtain ⟨h1, h2⟩ := getD_at (by simpa using h)
  unfold hopN
  have hh : (l.drop i).head? = some 64 := by rw [drop_at h1, h2]; rfl
  have hd : (l.drop i).drop 1 = l.drop (i + 1) := by rw [List.drop_drop]
  rw [if_pos hh, hd]
theorem hopN_no {l : List Int} {i : Nat} (h : (l[i]? == some 64) = false) : hopN (l.drop i) = none := by
  unfold hopN
  have hh : ¬ (l.drop i).head? = some 64 := by
    rw [List.head?_drop]; intro e; rw [e] at h; simp at h
  rw [if_neg hh]

set_option maxHeartbeats 1000000 in
theorem route1_any (rb b1 : Nat) (s : ByteArray) (i : Nat) (g : Bool) (w : World) (h : RD w rb s i g) (hs : s.size ≤ 100000) (ha : i ≤ s.size)
    (h1 : w.heap[b1]? = some (.cells #[.pointer (some ⟨rb, 0, none⟩)] 92 (0, 0))) (hn1 : b1 ≠ rb) :
    Calls Tryz.prog 109 #[.pointer (some ⟨b1, 0, none⟩)] w (PartP (hopS (nums s)) rb s i g w) := by
  have HP := Lib.hid (pass_any 64 rb s i g w h hs ha)
  have c1 := blk_cell h1 0
  have HB1 := Lib.hid h1
  clear h h1
  go_enter Tryz.func109, Tryz.ntmps109
  go_wp2_with fail
  refine HP.out.mono ?_
  rintro e w1 ⟨rfl, hr1, hm1⟩
  generalize hq : ((nums s)[i]? == some 64) = q at *
  have HQ := Lib.hid hq
  have HR1 := Lib.hid hr1
  have HM1 := Lib.hid hm1
  have k1 := blk_cell (hm1.row HB1.out (by simp; exact hn1)) 0
  clear hq hr1 hm1 HP c1
  cases q
  · go_wp2_with fail
    go_ret
    exact ⟨false, i, g, rfl, by simpa using HR1.out, Nat.le_refl _, ha, ⟨by simp, fun _ => hopN_no HQ.out⟩, HM1.out⟩
  · have hj1 : i + 1 ≤ s.size := by have := (getD_at (by simpa using HQ.out)).1; rw [nums_length] at this; omega
    have HD := Lib.hid (domain_any rb s (i + 1) g w1 (by simpa using HR1.out) hs hj1)
    go_wp2_with fail
    refine HD.out.mono ?_
    rintro e w2 ⟨ok, j, rfl, hr2, hij, hjs, hsp, hm2⟩
    have HR2 := Lib.hid hr2
    have HSp := Lib.hid hsp.labels
    have HM2 := Lib.hid (HM1.out.trans hm2)
    clear hr2 hsp hm2 HD
    go_wp2_with fail
    go_ret
    refine ⟨ok, j, _, rfl, HR2.out, by omega, hjs, ⟨fun hok => ⟨?_, by omega, ?_⟩, fun hok => ?_⟩, HM2.out⟩
    · rw [hopN_at HQ.out, HSp.out.2.1 hok]; simp; omega
    · have : j - (i + 1) = j - i - 1 := by omega
      rw [this]
    · rw [hopN_at HQ.out, HSp.out.2.2 hok]; rfl

def RouteP (rb : Nat) (s : ByteArray) (i : Nat) (w : World) (e : Ending) (w' : World) : Prop :=
  ∃ ok j h, e = .returned (.bool ok) ∧ RD w' rb s j h ∧ i ≤ j ∧ j ≤ s.size ∧ Mod [rb] w w' ∧ (ok = true → rtL ((nums s).drop i) = some (j - i, h)) ∧ (ok = false → rtL ((nums s).drop i) = none)

theorem nums_at : nums { data := #[64] } = [64] := by decide +kernel
theorem meets_at (l : List Int) (i : Nat) : meetsB (amongB [64]) l i = (l[i]? == some 64) := by
  unfold meetsB
  split
  · rename_i h; simp [h]
  · rename_i x h
    rw [h, Bool.eq_iff_iff]
    simp [amongB]
theorem rtL_no {l : List Int} {i : Nat} (h : (l[i]? == some 64) = false) : rtL (l.drop i) = some (0, false) := by
  unfold rtL
  have hh : ¬ (l.drop i).head? = some 64 := by
    rw [List.head?_drop]; intro e; rw [e] at h; simp at h
  rw [if_neg hh]
theorem rtL_at {l : List Int} {i : Nat} (h : (l[i]? == some 64) = true) : rtL (l.drop i) = (hopsF ((l.drop i).length + 1) (l.drop i) false).bind fun x => if (l.drop i)[x.1]? = some 58 then some (x.1 + 1, x.2) else none := by
  obtain ⟨h1, h2⟩ := getD_at (by simpa using h)
  unfold rtL
  have hh : (l.drop i).head? = some 64 := by rw [drop_at h1, h2]; rfl
  rw [if_pos hh]

set_option maxHeartbeats 2000000 in
theorem route_any (rb : Nat) (s : ByteArray) (i : Nat) (w : World) (h : RD w rb s i false) (hs : s.size ≤ 100000) (ha : i ≤ s.size) :
    Calls Tryz.prog 85 #[.pointer (some ⟨rb, 0, none⟩)] w (RouteP rb s i w) := by
  have hmf : ∀ (fn : Fn) (first cp : Array Value) (w : World), (Instr.makeFunc fn first cp).run Tryz.prog w = .ok (.func fn first cp) w := fun _ _ _ _ => rfl
  have H := Lib.hid h
  have hlt := h.lt
  clear h
  have HN := Lib.hid (heap_alloc_new w (.cells #[.pointer (some ⟨rb, 0, none⟩)] 92))
  have HM0 : Hid (Mod [] w (w.alloc (.cells #[.pointer (some ⟨rb, 0, none⟩)] 92))) := Lib.hid ((Mod.refl [] w).alloc _)
  have k0 := blk_cell HN.out 0
  go_enter Tryz.func85, Tryz.ntmps85
  go_wp2_with fail
  go_region_held3 (fun W => W.cell? ⟨w.heap.size, 0, none⟩ = some (.pointer (some ⟨rb, 0, none⟩))) ((simp [*])) (first | (go_at_call 77; refine (among_any _ _).mono ?_; rintro e w1 ⟨v, rfl, hk, hb⟩; obtain ⟨f, caps, rfl⟩ := hk.shape; have q0 := (Mod.ofBelow hb).cell (p := ⟨w.heap.size, 0, none⟩) (v := .pointer (some ⟨rb, 0, none⟩)) (by first | assumption | simp [*]) (by simp); have hm1 : Mod [] w w1 := HM0.out.trans ((Mod.refl [] _).drew.trans (Mod.ofBelow hb)); have HR1 := Lib.hid (H.out.quiet hm1); have HM1 := Lib.hid hm1; have HB1 := Lib.hid ((Mod.ofBelow hb).row (blk_drew HN.out) (by simp)); rw [nums_at] at hk; have HK := Lib.hid hk; clear hk hb hm1) | (go_at_call 98; refine (meets_any rb s i false _ _ _ _ _ HR1.out hs ha HK.out).mono ?_; rintro e w2 ⟨rfl, hw⟩; have hm2 := quiet_mod hw; have q1 := hm2.cell q0 (by simp); have HM2 := Lib.hid hm2; clear hw hm2))
  rw [meets_at]
  generalize hq : ((nums s)[i]? == some 64) = q at *
  have HQ := Lib.hid hq
  have HR2 := Lib.hid (HR1.out.quiet HM2.out)
  have HB2 := Lib.hid (HM2.out.row HB1.out (by simp))
  have HM := Lib.hid (HM1.out.trans HM2.out)
  clear hq k0 q0 HR1 HM1 HB1 HK
  cases q
  · go_wp2_with fail
    go_ret
    exact ⟨true, i, false, rfl, HR2.out, Nat.le_refl _, ha, HM.out.mono (by simp), fun _ => by rw [rtL_no HQ.out]; simp, by simp⟩
  · go_wp2_with fail
    have hPt : Pt rb s w2 (.func (.func 109) #[] #[.pointer (some ⟨w.heap.size, 0, none⟩)]) (hopS (nums s)) := by
      refine ⟨_, _, [(w.heap.size, .cells #[.pointer (some ⟨rb, 0, none⟩)] 92 (0, 0))], w.heap.size, w.heap.size + 1, rfl, enters_of Tryz.func109 (by kernel_rfl) rfl, ?_, ?_, Or.inl hlt, ?_⟩
      · intro x hx
        simp only [List.mem_singleton] at hx
        subst hx
        exact HB2.out
      · intro x hx
        simp only [List.mem_singleton] at hx
        subst hx
        simp
      · intro w' j g' hS' hr hj
        exact route1_any rb _ s j g' w' hr hs hj (hS' (_, _) (by simp)) (by omega)
    refine (parted_any (hopS (nums s)) 44 rb s i false _ _ HR2.out hs ha hPt).mono ?_
    rintro e w3 ⟨ok, j, h, rfl, hr, hij, hjs, hsp, hm3⟩
    have HR3 := Lib.hid hr
    have HSp := Lib.hid (hsp.hops _ (Nat.lt_succ_self _))
    have HM3 := Lib.hid ((HM.out.mono (by simp)).trans hm3)
    have HB3 := Lib.hid (hm3.row HB2.out (by simp; omega))
    clear hr hsp hm3 hPt q1
    have k0 := blk_cell HB3.out 0
    cases ok
    · go_wp2_with fail
      go_ret
      exact ⟨false, j, h, rfl, HR3.out, hij, hjs, HM3.out, by simp, fun _ => by rw [rtL_at HQ.out, HSp.out.2 (by trivial)]; rfl⟩
    · have HP := Lib.hid (pass_any 58 rb s j h w3 HR3.out hs hjs)
      go_wp2_with fail
      refine HP.out.mono ?_
      rintro e w4 ⟨rfl, hr4, hm4⟩
      generalize hq : ((nums s)[j]? == some 58) = q at *
      have HQ2 := Lib.hid hq
      have HR4 := Lib.hid hr4
      have HM4 := Lib.hid (HM3.out.trans hm4)
      clear hq hr4 hm4 HP
      have hidx : ((nums s).drop i)[j - i]? = (nums s)[j]? := by rw [List.getElem?_drop]; congr 1; omega
      have HI := Lib.hid hidx
      clear hidx
      cases q
      · go_wp2_with fail
        go_ret
        refine ⟨false, j, h, rfl, by simpa using HR4.out, hij, hjs, HM4.out, by simp, fun _ => ?_⟩
        have hne : ¬ ((nums s).drop i)[j - i]? = some 58 := by rw [HI.out]; intro e; have := HQ2.out; rw [e] at this; simp at this
        rw [rtL_at HQ.out, (HSp.out.1 (by trivial)).2]
        simp only [Option.bind_some, if_neg hne]
      · have hj1 : j + 1 ≤ s.size := by have := (getD_at (by simpa using HQ2.out)).1; rw [nums_length] at this; omega
        go_wp2_with fail
        go_ret
        refine ⟨true, j + 1, h, rfl, by simpa using HR4.out, by omega, hj1, HM4.out, fun _ => ?_, by simp⟩
        have hne : ((nums s).drop i)[j - i]? = some 58 := by rw [HI.out]; simpa using HQ2.out
        rw [rtL_at HQ.out, (HSp.out.1 (by trivial)).2]
        simp only [Option.bind_some, if_pos hne]
        have : j - i + 1 = j + 1 - i := by omega
        rw [this]
end Go.Proofs.YthcgnnhfkejglaaGreatDoor

