/- HeadBack: fields and a body that are put together come back as they were. -/
import Derived.Test.YticdpepkmplfiaaDoorHdV
import Derived.Test.YticdpepkmplfiaaDoorHdZ
namespace Go.Proofs.YticdpepkmplfiaaDoor
open Go.Shelf Go.ChangeShapes Go.WideShapes Go.ChangeAt Go.RowKit
set_option linter.unusedVariables false
set_option linter.unusedSimpArgs false

theorem Own8.bin {e : TypeId} {B : Nat} {W0 w : World} {a : Option Addr} {n cap : Nat} {l : List Int} (h : Own8 e B W0 w (.slice a n cap) n l) : Bin w a n cap l := by
  have hl := h.len
  rcases h.own.2 with ⟨he, hn⟩ | ⟨g, c, cur, hv, _, _, h1, h2, _, _⟩
  · simp only [Value.slice.injEq] at he
    obtain ⟨rfl, rfl, rfl⟩ := he
    exact ⟨hl.symm, Nat.le_refl _, by decide, fun _ => rfl, h.cells⟩
  · simp only [Value.slice.injEq] at hv
    obtain ⟨rfl, _, rfl⟩ := hv
    exact ⟨hl.symm, h1, h2, nofun, h.cells⟩
def LawP (w : World) (e : Ending) (w' : World) : Prop := e = .returned (.bool true) ∧ Below w.heap.size w w'
theorem buildN_len {fs : List Fd} {body : List Int} (h : ∀ f ∈ fs, goodF f = true) (h20 : fs.length ≤ 20) (hb : body.length ≤ 300) : (buildN fs body).length ≤ 100000 := by
  have : ∀ gs : List Fd, (∀ f ∈ gs, goodF f = true) → (gs.flatMap writtenN).length ≤ 2708 * gs.length := by
    intro gs
    induction gs with
    | nil => intro _; simp
    | cons g gs ih =>
      intro hg
      have h1 := written_len (hg g (by simp))
      have h2 := ih (fun f hf => hg f (List.mem_cons_of_mem _ hf))
      rw [List.flatMap_cons, List.length_append, List.length_cons]
      omega
  have := this fs h
  unfold buildN
  rw [List.length_append, List.length_cons, List.length_cons]
  omega
theorem split_buildR {fs : List Fd} {body : List Int} (h : fs.all goodF = true) : splitW (buildN fs body) = some (fs, body) := by
  unfold splitW
  rw [if_neg, split_build fs body (fun f hf => List.all_eq_true.1 h f hf)]
  unfold buildN
  intro hh
  have := congrArg List.length hh
  simp at this
theorem owns_cells8 {w : World} {B : Nat} {a : Option Addr} {n cap : Nat} {l : List Int} (hb : Bytes l) (h : w.ownsRow B 5 1 (.slice a n cap) n (u8s l)) : Cells8 w a l ∧ n = l.length := by
  have hl : n = l.length := by have := h.1; simp at this; omega
  exact ⟨Cells8.ofOwns hb h, hl⟩
set_option maxRecDepth 100000 in
set_option maxHeartbeats 4000000 in
theorem hback_any (w : World) (la : Option Addr) (ln lc : Nat) (fs : List Fd) (h : InFd w la fs) (hn : ln = fs.length) (hl : fs.length ≤ 9223372036854775807) (ba : Option Addr) (bn bc : Nat) (body : List Int) (hb : Bin w ba bn bc body) (hM : ML w) :
    Calls Tryd.prog 5 #[.slice la ln lc, .slice ba bn bc] w (LawP w) := by
  unfold LawP
  have HAw := Lib.hid (awake_any w hM)
  unfold AwP at HAw
  have HE := Lib.hid (fun (W : World) (hm : Mod [] w W) => hM.quiet hm)
  have HF := Lib.hid h
  have HL := Lib.hid hn
  have HB := Lib.hid hb
  have hbn := hb.len
  have hbm := hb.most
  have hble := hb.le
  have HFw := Lib.hid (fun (W : World) (hm : Mod [] w W) => few_any W la ln lc fs (h.1.quiet hm) hn h.2 (by omega))
  unfold BoolP at HFw
  have HBn := Lib.hid hbn
  have hbn9 : bn ≤ 9223372036854775807 := by omega
  clear h hn hl hb hM hbn hbm hble
  cases hf : fewB fs with
  | false =>
    rw [hf] at HFw
    clear hf
    go_enter Tryd.func5, Tryd.ntmps5
    go_wp2_with (first | (go_at_call 7; refine HAw.out.mono ?_; rintro e w1 ⟨rfl, hm1⟩; have HM1 := Lib.hid hm1; clear hm1) | (go_at_call 8; refine (HFw.out _ HM1.out).mono ?_; rintro e w2 ⟨rfl, rfl⟩))
    go_ret
    exact ⟨rfl, HM1.out.toBelow (Nat.le_refl _) (by simp)⟩
  | true =>
    obtain ⟨h20, hsm⟩ := fewB_small hf
    have HSm := Lib.hid hsm
    have H20 := Lib.hid h20
    rw [hf] at HFw
    clear hf hsm h20
    by_cases h300 : 300 < bn
    · go_enter Tryd.func5, Tryd.ntmps5
      go_wp2_with (first | (go_at_call 7; refine HAw.out.mono ?_; rintro e w1 ⟨rfl, hm1⟩; have HM1 := Lib.hid hm1; clear hm1) | (go_at_call 8; refine (HFw.out _ HM1.out).mono ?_; rintro e w2 ⟨rfl, rfl⟩))
      go_ret
      exact ⟨rfl, HM1.out.toBelow (Nat.le_refl _) (by simp)⟩
    · have h300' : bn ≤ 300 := by omega
      have HBd := Lib.hid (fun (W : World) (hm : Mod [] w W) => build_any W la ln lc fs (HF.out.1.quiet hm) HL.out HSm.out ba bn bc body (HB.out.quiet hm).cells HBn.out (by have := HBn.out; omega))
      unfold BuildP at HBd
      clear h300
      by_cases hg : fs.all goodF = true
      · have hr : buildR fs body = (buildN fs body, 0) := if_pos hg
        have hlen := buildN_len (fun f hf => List.all_eq_true.1 hg f hf) H20.out (show body.length ≤ 300 by have := HBn.out; omega)
        have HSb := Lib.hid (split_buildR (body := body) hg)
        have HLen := Lib.hid hlen
        rw [hr] at HBd
        clear hg hr hlen
        go_enter Tryd.func5, Tryd.ntmps5
        go_wp2_with (first | (go_at_call 7; refine HAw.out.mono ?_; rintro e w1 ⟨rfl, hm1⟩; have HM1 := Lib.hid hm1; clear hm1) | (go_at_call 8; refine (HFw.out _ HM1.out).mono ?_; rintro e w2 ⟨rfl, rfl⟩) | (go_at_call 11; refine (HBd.out _ HM1.out).mono ?_; rintro e w3 ⟨ma, mn, mc, rfl, ho3⟩; have HO3 := Lib.hid ho3; have HM3 := Lib.hid (HM1.out.trans (Mod.ofBelow ho3.below)); clear ho3))
        have HSp := Lib.hid (split_any w3 ma mn mc _ HO3.out.bin (HE.out _ HM3.out) (by have := HLen.out; omega))
        unfold SplitP at HSp
        rw [HSb.out] at HSp
        refine HSp.out.mono ?_
        rintro e w4 ⟨sa, sn, sc, ra, rn, rc, rfl, ho4, hr4, hby4, hm4⟩
        have HM4 := Lib.hid (HM3.out.trans hm4)
        have ho4' : OwnF w3.heap.size w4 (.slice sa sn sc) sn fs := ho4
        have HSa := Lib.hid (sameF_any w4 sa sn sc fs ho4'.cells ho4'.len la ln lc fs (HF.out.1.quiet HM4.out) HL.out (by rw [ho4'.len]; have := H20.out; omega) (by rw [HL.out]; have := H20.out; omega))
        unfold BoolM at HSa
        rw [decide_eq_true rfl] at HSa
        have hr4' : w4.ownsRow w3.heap.size 5 1 (.slice ra rn rc) rn (u8s body) := hr4
        have HRc := Lib.hid (fun (W : World) (hm : Mod [] w4 W) => run_str (P := Tryd.prog) ((owns_cells8 HB.out.cells.1 hr4').1.mod hm (by simp)) 23 9 5 rn rc Tryd.underlying23 Tryd.underlying5 Tryd.underlying9 (owns_cells8 HB.out.cells.1 hr4').2)
        have HBc := Lib.hid (fun (W : World) (hm : Mod [] w4 W) => str_run (HB.out.quiet (HM4.out.trans hm)))
        have q1 := eq_str (strOfNums body)
        generalize strOfNums body = bs at *
        clear ho4 ho4' hr4 hr4' hby4 hm4 HSp
        go_wp2_with fail
        refine HSa.out.mono ?_
        rintro e w5 ⟨rfl, hm5⟩
        have c1 := HRc.out w5 hm5
        have c2 := HBc.out w5 hm5
        have HM5 := Lib.hid (HM4.out.trans hm5)
        clear hm5
        go_wp2_with fail
        go_ret
        exact ⟨rfl, HM5.out.toBelow (Nat.le_refl _) (by simp)⟩
      · have hr : buildR fs body = ([], 3) := if_neg hg
        rw [hr] at HBd
        clear hg hr
        go_enter Tryd.func5, Tryd.ntmps5
        go_wp2_with (first | (go_at_call 7; refine HAw.out.mono ?_; rintro e w1 ⟨rfl, hm1⟩; have HM1 := Lib.hid hm1; clear hm1) | (go_at_call 8; refine (HFw.out _ HM1.out).mono ?_; rintro e w2 ⟨rfl, rfl⟩) | (go_at_call 11; refine (HBd.out _ HM1.out).mono ?_; rintro e w3 ⟨ma, mn, mc, rfl, ho3⟩; have hmn : mn = 0 := ho3.len.symm; subst hmn; have HM3 := Lib.hid (HM1.out.trans (Mod.ofBelow ho3.below)); clear ho3))
        go_ret
        exact ⟨rfl, HM3.out.toBelow (Nat.le_refl _) (by simp)⟩
end Go.Proofs.YticdpepkmplfiaaDoor
